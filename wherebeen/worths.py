"""The order and the number of worths, and their fields."""

from wherebeen.errors import NoField, NoPlace, NoValue, Taken, TooMany
from wherebeen.forms import is_integer, is_value


def least_value(kind):
    """The first value of a kind."""
    if kind[0] == "word":
        return ""
    if kind[0] == "pick":
        return 0
    return None if kind[0] == "maybe" else ()


def least_worth(form):
    """The first worth of a form."""
    return tuple([least_value(kind) for _, kind in form])


def order_key(worth):
    """What stands for a worth in comparisons."""
    # None does not compare with tuples; () is no value of a maybe, and ahead of all tuples that are
    return tuple([() if value is None else value for value in worth])


def is_ahead(form, one, other):
    """Whether one worth of a form stands ahead of another one."""
    return order_key(one) < order_key(other)


def sorted_worths(form, worths):
    """The list of worths of a form in order, equal ones once."""
    found = []
    for worth in sorted(worths, key=order_key):
        if not found or found[-1] != worth:
            found.append(worth)
    return found


def is_finite_form(form):
    """Whether each kind of a form is a pick or a maybe of a pick."""
    return all([kind[0] == "pick" or kind[0] == "maybe" and kind[1][0] == "pick" for _, kind in form])


def finite_values(kind):
    """The list of the values of a pick, or of a maybe of a pick, in order."""
    if kind[0] == "pick":
        return list(range(kind[1]))
    return [None] + [(value,) for value in finite_values(kind[1])]


def all_choices(lists):
    """The list of all tuples of an item of each list, in the order in which the last item changes first."""
    rows = [()]
    for values in lists:
        rows = [(*row, value) for row in rows for value in values]
    return rows


def product_of(numbers):
    """The product of a list of integers."""
    many = 1
    for number in numbers:
        many *= number
    return many


def worths_many(form):
    """How many worths a FINITE form has, None for any other form."""
    if not is_finite_form(form):
        return None
    return product_of([len(finite_values(kind)) for _, kind in form])


def all_worths(form):
    """The list of all worths of a FINITE form, in order."""
    return all_choices([finite_values(kind) for _, kind in form])


def place_of(form, worth):
    """The index of a worth of a FINITE form among all of them."""
    place = 0
    for field, value in zip(form, worth):
        values = finite_values(field[1])
        place = place * len(values) + values.index(value)
    return place


def worth_at(form, place):
    """The worth of a FINITE form at an index, any value, among all of them."""
    if not is_integer(place) or not 0 <= place < worths_many(form):
        raise NoPlace(place)
    worth = ()
    left = place
    for _, kind in reversed(form):
        values = finite_values(kind)
        worth = (values[left % len(values)],) + worth
        left = left // len(values)
    return worth


def field_names(form):
    """The list of the names of the fields, in order."""
    return [name for name, _ in form]


def field_of(form, name):
    """The index of the field with a name, any value."""
    names = field_names(form)
    if name not in names:
        raise NoField(name)
    return names.index(name)


def value_in(form, worth, name):
    """The value that a worth has in the field with a name, any value."""
    return worth[field_of(form, name)]


def with_item(worth, at, value):
    """The worth with another value in the field with an index."""
    return worth[:at] + (value,) + worth[at + 1:]


def with_value(form, worth, name, value):
    """The worth with a value, any one, in the field with a name, any value."""
    at = field_of(form, name)
    if not is_value(form[at][1], value):
        raise NoValue(value)
    return with_item(worth, at, value)


def part_form(form, names):
    """The form with the fields with these names, in this order."""
    return tuple([form[field_of(form, name)] for name in names])


def part_worth(form, worth, names):
    """What a worth has in the fields with these names, in this order."""
    return tuple([value_in(form, worth, name) for name in names])


def beside(form, other):
    """The form with the fields of one form and behind them those of another one."""
    if len(form) + len(other) > 5:
        raise TooMany(5)
    names = field_names(form)
    for name, _ in other:
        if name in names:
            raise Taken(name)
    return form + other


def renamed_form(form, names):
    """The form with new names, names being a dict from the old ones to them."""
    return tuple([(names[name], kind) for name, kind in form])
