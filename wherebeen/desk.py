"""Leads a Book by lines of text."""

from wherebeen.book import Book
from wherebeen.errors import NoCommand, NoText, WayError, ask
from wherebeen.forms import is_way
from wherebeen.guide import Guide
from wherebeen.lines import Line
from wherebeen.reader import number_of, read_house, take_expression, take_field, take_number, take_value, take_way
from wherebeen.texts import show_house, show_worth
from wherebeen.turns import plain_turn
from wherebeen.ways import led
from wherebeen.worths import with_item


def take_word(line, word):
    """Takes a word that has to stand there."""
    if line.take() != word:
        raise NoText(line.number)


def take_spot(line, book):
    """Takes the index of a form."""
    return take_number(line, 0, len(book.house_now()[0]) - 1)


def take_road(line, book):
    """Takes the index of a road."""
    return take_number(line, 0, len(book.house_now()[1]) - 1)


def take_part(line, form, other, turn):
    """Takes an expression for one field, and returns the turn from one form to another one with it."""
    at = take_field(line, other)
    return with_item(turn, at, take_expression(line, form, other[at][1]))


def take_way_to(line, house, word):
    """Takes a way of a house and the word behind it."""
    spots = []
    token = line.take()
    while token != word:
        spots.append(number_of(line, token, 0, len(house[0]) - 1))
        token = line.take()
    if not is_way(house, tuple(spots)):
        raise NoText(line.number)
    return tuple(spots)


# Each function from here on takes what stands behind the first word of a command, and returns what is then to be done.


def copy_form(line, book):
    """A form more that is equal to one of the house, with a road to it."""
    take_word(line, "form")
    spot = take_spot(line, book)
    form = book.house_now()[0][spot]
    return lambda: book.add_form(spot, form, plain_turn(form), plain_turn(form))


def put_parts(line, book):
    """One expression there and one back, instead of those that a road has."""
    forms, roads = book.house_now()
    index = take_road(line, book)
    one, other, there, back = roads[index]
    take_word(line, "there")
    new_there = take_part(line, forms[one], forms[other], there)
    take_word(line, "back")
    new_back = take_part(line, forms[other], forms[one], back)
    return lambda: book.put_road(index, new_there, new_back)


def drop_part(line, book):
    """A road or a form less."""
    label = line.take()
    if label == "road":
        index = take_road(line, book)
        return lambda: book.drop_road(index)
    if label != "form":
        raise NoText(line.number)
    spot = take_spot(line, book)
    return lambda: book.drop_form(spot)


def make_sure(line, book):
    """The promise that a field is sure."""
    spot = take_spot(line, book)
    form = book.house_now()[0][spot]
    name = form[take_field(line, form)][0]
    return lambda: book.promise(("sure", spot, name))


def withdraw_one(line, book):
    """A promise less."""
    index = take_number(line, 0, len(book.promises()) - 1)
    return lambda: book.withdraw(index)


def undo_last(line, book):
    """The last change taken back."""
    return lambda: book.undo()


def tell_house(line, book):
    """The lines of the house."""
    return lambda: show_house(book.house_now()).split("\n")


def tell_promises(line, book):
    """A line for each promise."""
    return lambda: [f"sure {spot} {name}" for _, spot, name in book.promises()]


def tell_led(line, book):
    """The lines of what a worth becomes by a way."""
    house = book.house_now()
    way = take_way_to(line, house, "with")
    worth = tuple([take_value(line, kind) for _, kind in house[0][way[0]]])
    return lambda: show_worth(house[0][way[-1]], led(house, way, worth)).split("\n")


def tell_same(line, book):
    """Whether two ways do the same to all worths."""
    house = book.house_now()
    one = take_way_to(line, house, "and")
    other = take_way(line, house)
    if one[0] != other[0] or one[-1] != other[-1]:
        raise NoText(line.number)
    return lambda: ["yes" if Guide(house).parting(one, other) is None else "no"]


CHANGES = {
    "copy": copy_form,
    "put": put_parts,
    "drop": drop_part,
    "sure": make_sure,
    "withdraw": withdraw_one,
    "undo": undo_last,
}

QUESTIONS = {"house": tell_house, "promises": tell_promises, "lead": tell_led, "same": tell_same}


def take_command(line, book, label):
    """Takes what stands behind the first word of a command, and returns what is then to be done."""
    if label in CHANGES:
        command = CHANGES[label]
    elif label in QUESTIONS:
        command = QUESTIONS[label]
    else:
        raise NoText(line.number)
    action = command(line, book)
    line.end()
    return action


def done_or_refused(action):
    """The answer to a change, once it is tried."""
    try:
        action()
    except WayError:
        return ["refused"]
    return ["done"]


class Desk:
    """A Book that is led by lines of text."""

    def __init__(self, text):
        ask(0, isinstance(text, str))
        self._book = Book(read_house(text))

    def execute(self, line):
        """Does what a line says, and returns the list of the lines of the answer."""
        ask(0, isinstance(line, str))
        tokens = Line(0, line)
        try:
            label = tokens.take()
            action = take_command(tokens, self._book, label)
        except NoText:
            raise NoCommand()
        return done_or_refused(action) if label in CHANGES else action()

    def book(self):
        """A twin of the Book."""
        return self._book.twin()
