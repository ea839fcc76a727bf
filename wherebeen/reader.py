"""Reads the texts that show values, ways, forms, worths, turns and houses."""

from wherebeen.errors import NoText, ask
from wherebeen.forms import is_base_value, is_form, is_head, is_house, is_kind, is_name, is_way, pairs_of, reached
from wherebeen.lines import lines_many, lines_of
from wherebeen.parts import fits_kind, gathered, inner_kinds, inner_parts, with_inner
from wherebeen.worths import field_names


def number_of(line, token, least, most):
    """The integer from least to most whose writing is a token."""
    for number in range(least, most + 1):
        if token == str(number):
            return number
    raise NoText(line.number)


def take_number(line, least, most):
    """Takes an integer from least to most."""
    return number_of(line, line.take(), least, most)


def base_of(line, token):
    """The base whose writing begins with a token."""
    if token == "word":
        return ("word",)
    if token == "pick":
        return ("pick", take_number(line, 1, 4))
    raise NoText(line.number)


def take_kind(line):
    """Takes a kind."""
    token = line.take()
    if token in ("maybe", "row"):
        return (token, base_of(line, line.take()))
    return base_of(line, token)


def base_value_of(line, base, token):
    """The value of a base whose writing is a token."""
    if base[0] == "word":
        if isinstance(token, tuple) and is_base_value(base, token[0]):
            return token[0]
        raise NoText(line.number)
    for value in range(base[1]):
        if token == str(value):
            return value
    raise NoText(line.number)


def take_row(line, base):
    """Takes the values of a row and the bracket behind them."""
    values = []
    token = line.take()
    while token != "]":
        values.append(base_value_of(line, base, token))
        token = line.take()
    return tuple(values)


def take_value(line, kind):
    """Takes a value of a kind."""
    token = line.take()
    if kind[0] in ("word", "pick"):
        return base_value_of(line, kind, token)
    if kind[0] == "row" and token == "[":
        return take_row(line, kind[1])
    if kind[0] == "maybe" and token == "-":
        return None
    if kind[0] == "maybe" and token == "some":
        return (base_value_of(line, kind[1], line.take()),)
    raise NoText(line.number)


def take_field(line, form):
    """Takes the name of a field of a form, and returns its index."""
    token = line.take()
    names = field_names(form)
    if token not in names:
        raise NoText(line.number)
    return names.index(token)


def take_head(line, form, kind):
    """Takes an expression for a kind but for those in it, in whose places None stands."""
    label = line.take()
    if not fits_kind(kind, label):
        raise NoText(line.number)
    head = (label, None)
    if label in ("copy", "is", "first"):
        head = (label, take_field(line, form))
    if label == "say":
        head = (label, take_value(line, kind))
    if label == "when":
        head = (label, None, (None,) * take_number(line, 1, 4))
    if label == "else":
        head = (label, None, None)
    if label == "table":
        head = (label, None, take_value(line, ("row", kind)))
    if not is_head(form, kind, head):
        raise NoText(line.number)
    return head


def take_expression(line, form, kind):
    """Takes an expression for a kind, by a form."""
    heads = []
    waiting = [kind]
    while waiting:
        wanted = waiting.pop()
        head = take_head(line, form, wanted)
        heads.append(head)
        waiting.extend(inner_kinds(wanted, head)[::-1])
    return gathered(heads, inner_parts, with_inner)


def take_way(line, house):
    """Takes a way of a house."""
    spots = []
    while not line.is_done():
        spots.append(take_number(line, 0, len(house[0]) - 1))
    if not is_way(house, tuple(spots)):
        raise NoText(line.number)
    return tuple(spots)


def take_new_field(line, fields):
    """Takes the name and the kind of a field, and puts it behind the fields of a form."""
    name = line.take()
    if not is_name(name) or name in field_names(fields) or len(fields) == 5:
        raise NoText(line.number)
    fields.append((name, take_kind(line)))


def take_told(line, form, told, take):
    """Takes a name and what take takes for its field's kind, and puts this into a dict by the field's index."""
    at = take_field(line, form)
    if at in told:
        raise NoText(line.number)
    told[at] = take(line, form[at][1])


def told_in_order(told):
    """The tuple of what a dict tells by index."""
    return tuple([told[at] for at in range(len(told))])


def only_told(text, take):
    """What take takes of the only line of a text that has tokens."""
    told = []
    for line in lines_of(text):
        if told:
            raise NoText(line.number)
        told.append(take(line))
        line.end()
    if not told:
        raise NoText(lines_many(text))
    return told[0]


def all_told(form, text, take):
    """The tuple of what take takes for each field of a form."""
    told = {}
    for line in lines_of(text):
        take_told(line, form, told, take)
        line.end()
    if len(told) < len(form):
        raise NoText(lines_many(text))
    return told_in_order(told)


def read_value(kind, text):
    """The value of a kind that a text shows."""
    ask(0, is_kind(kind))
    ask(1, isinstance(text, str))
    return only_told(text, lambda line: take_value(line, kind))


def read_way(house, text):
    """The way of a house that a text shows."""
    ask(0, is_house(house))
    ask(1, isinstance(text, str))
    return only_told(text, lambda line: take_way(line, house))


def read_form(text):
    """The form that a text shows."""
    ask(0, isinstance(text, str))
    fields = []
    for line in lines_of(text):
        if line.take() != "field":
            raise NoText(line.number)
        take_new_field(line, fields)
        line.end()
    if not fields:
        raise NoText(lines_many(text))
    return tuple(fields)


def read_worth(form, text):
    """The worth of a form that a text shows."""
    ask(0, is_form(form))
    ask(1, isinstance(text, str))
    return all_told(form, text, take_value)


def read_turn(form, other, text):
    """The turn from one form to another one that a text shows."""
    ask(0, is_form(form))
    ask(1, is_form(other))
    ask(2, isinstance(text, str))
    return all_told(other, text, lambda line, kind: take_expression(line, form, kind))


class HouseRead:
    """What the lines of the text of a house have told so far.

    A road is a tuple of its two forms and of a dict for each of its turns, from indexes of fields to expressions.
    """

    def __init__(self):
        self.forms = []
        self.roads = []

    def form_is_open(self):
        """Whether there is no form, or no field of the last one."""
        return not self.forms or not self.forms[-1]

    def road_is_open(self):
        """Whether a line of the last road lacks."""
        if not self.roads:
            return False
        one, other, there, back = self.roads[-1]
        return len(there) < len(self.forms[other]) or len(back) < len(self.forms[one])

    def take_form(self, line):
        """Takes what stands in a `form` line."""
        if self.roads or len(self.forms) == 6 or self.forms and self.form_is_open():
            raise NoText(line.number)
        self.forms.append([])

    def take_form_field(self, line):
        """Takes what stands in a `field` line."""
        if self.roads or not self.forms:
            raise NoText(line.number)
        take_new_field(line, self.forms[-1])

    def take_road(self, line):
        """Takes what stands in a `road` line."""
        if self.form_is_open() or self.road_is_open() or len(self.roads) == 9:
            raise NoText(line.number)
        one = take_number(line, 0, len(self.forms) - 2)
        other = take_number(line, one + 1, len(self.forms) - 1)
        if (one, other) in pairs_of(self.roads):
            raise NoText(line.number)
        self.roads.append((one, other, {}, {}))

    def take_turn(self, line, label):
        """Takes what stands in a `there` or a `back` line."""
        if not self.roads:
            raise NoText(line.number)
        one, other, there, back = self.roads[-1]
        first, last, told = (one, other, there) if label == "there" else (other, one, back)
        form = self.forms[first]
        take_told(line, self.forms[last], told, lambda row, kind: take_expression(row, form, kind))

    def take_line(self, line):
        """Takes what stands in any line."""
        label = line.take()
        if label == "form":
            self.take_form(line)
        elif label == "field":
            self.take_form_field(line)
        elif label == "road":
            self.take_road(line)
        elif label in ("there", "back"):
            self.take_turn(line, label)
        else:
            raise NoText(line.number)
        line.end()

    def is_whole(self):
        """Whether nothing lacks."""
        if self.form_is_open() or self.road_is_open():
            return False
        return len(reached(0, pairs_of(self.roads))) == len(self.forms)

    def house(self):
        """The house that the lines have told."""
        roads = sorted(self.roads, key=lambda road: (road[0], road[1]))
        turns = [(one, other, told_in_order(there), told_in_order(back)) for one, other, there, back in roads]
        return (tuple([tuple(fields) for fields in self.forms]), tuple(turns))


def read_house(text):
    """The house that a text shows."""
    ask(0, isinstance(text, str))
    told = HouseRead()
    for line in lines_of(text):
        told.take_line(line)
    if not told.is_whole():
        raise NoText(lines_many(text))
    return told.house()
