"""The fields of the forms of a house: in another order, or one more."""

from wherebeen.errors import Taken, TooMany
from wherebeen.expressions import put_in
from wherebeen.worths import field_names


def ordered(things, order):
    """The tuple of the items of one with these indexes."""
    return tuple([things[at] for at in order])


def anew(turn, copies):
    """The turn with the indexes of fields that a turn of copies has in the places of its own."""
    return tuple([put_in(expression, copies) for expression in turn])


def in_order(house, spot, order):
    """The house in which a form has its fields in another order, told by their indexes so far."""
    forms, roads = house
    copies = tuple([("copy", order.index(field)) for field in range(len(order))])
    made = []
    for one, other, there, back in roads:
        if one == spot:
            there, back = anew(there, copies), ordered(back, order)
        if other == spot:
            there, back = ordered(there, order), anew(back, copies)
        made.append((one, other, there, back))
    return (forms[:spot] + (ordered(forms[spot], order),) + forms[spot + 1:], tuple(made))


def widened(house, name, kind):
    """The house in which each form has one field more, behind the others, that each turn copies."""
    forms, roads = house
    if max([len(form) for form in forms]) > 4:
        raise TooMany(5)
    if any([name in field_names(form) for form in forms]):
        raise Taken(name)
    made = []
    for one, other, there, back in roads:
        made.append((one, other, there + (("copy", len(forms[one])),), back + (("copy", len(forms[other])),)))
    return (tuple([form + ((name, kind),) for form in forms]), tuple(made))
