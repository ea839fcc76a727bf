"""Forms and roads that are added to a house."""

from wherebeen.errors import TooMany
from wherebeen.guide import ask_few, doing_of
from wherebeen.parted import good_guide
from wherebeen.probes import unlike_test
from wherebeen.returns import unlike_way
from wherebeen.shapes import change_places
from wherebeen.shortcuts import house_with


def with_form(house, spot, form, there, back):
    """The house with a form more, behind all others, and a road to it."""
    forms, roads = house
    if len(forms) > 5:
        raise TooMany(6)
    return house_with((forms + (form,), roads), (spot, len(forms), there, back))


def form_fault(house, spot, form, there, back):
    """None if the house with a form more is good, otherwise what it breaks."""
    ask_few((house[0] + (form,), house[1]))
    guide = good_guide(house)
    test = unlike_test(house[0][spot], (there, back, there), (there,))
    if test is not None:
        return ("road", 0, test)
    test = unlike_test(form, (back, there, back), (back,))
    if test is not None:
        return ("road", 1, test)
    found = unlike_way(guide, spot, doing_of(guide, spot, (there, back)))
    return None if found is None else ("returns", *found)


def looking_form(house, spot, turn):
    """The house with a form more that is equal to one of its forms; one turn of this form leads there, and back."""
    return with_form(house, spot, house[0][spot], turn, turn)


def clash(form, one, other):
    """None if two settled turns of a form change places, otherwise two good houses of theirs that cannot be joined."""
    if change_places(form, one, other):
        return None
    alone = ((form,), ())
    return (looking_form(alone, 0, one), looking_form(alone, 0, other))
