"""A good house of FINITE forms as one whole, in numbers: a place for each worth, and a loss for each road."""

from wherebeen.errors import NotFinite, TooMany
from wherebeen.forms import is_integer, is_tuple
from wherebeen.losses import Losses
from wherebeen.parted import good_guide
from wherebeen.worths import is_finite_form


def finite_guide(house):
    """A guide of a good house of FINITE forms; raises as good_guide, then NotFinite with the least other form."""
    guide = good_guide(house)
    for spot, form in enumerate(house[0]):
        if not is_finite_form(form):
            raise NotFinite(spot)
    return guide


def are_numbers(many, length, thing):
    """Whether any value is a tuple of so many integers, each from 0 to many - 1."""
    return is_tuple(thing, length, length) and all([is_integer(item) and 0 <= item < many for item in thing])


def are_maps(guide, maps_many, thing):
    """Whether any value is a tuple of a number, places for all forms, and so many maps of numbers, as it is told."""
    if not is_tuple(thing, 3, 3) or not is_integer(thing[0]) or thing[0] < 1:
        return False
    many, places, maps = thing
    if not is_tuple(places, len(guide.tests), len(guide.tests)) or not is_tuple(maps, maps_many, maps_many):
        return False
    for numbers, row in zip(guide.tests, places):
        # the tests of a FINITE form are all its worths
        if not are_numbers(many, len(numbers), row) or len(set(row)) < len(row):
            return False
    return all([are_numbers(many, many, row) for row in maps])


def maps_change_places(one, other):
    """Whether two maps of numbers change places."""
    return [one[number] for number in other] == [other[number] for number in one]


def are_settled(maps):
    """Whether each map of numbers is twice as once, and any two change places."""
    if not all([row[number] == number for row in maps for number in row]):
        return False
    return all([maps_change_places(one, other) for at, one in enumerate(maps) for other in maps[:at]])


def follows(guide, way, places, row):
    """Whether by a way each worth goes to the worth whose place is what a map makes of its place."""
    outcomes = guide.led_all(way, guide.tests[way[0]])
    return [places[way[-1]][number] for number in outcomes] == [row[place] for place in places[way[0]]]


def is_whole(house, thing):
    """Whether any value is a whole of the house."""
    guide = finite_guide(house)
    if not are_maps(guide, len(house[1]), thing) or not are_settled(thing[2]):
        return False
    for road, loss in zip(house[1], thing[2]):
        way = (road[0], road[1])
        if not follows(guide, way, thing[1], loss) or not follows(guide, way[::-1], thing[1], loss):
            return False
    return True


def numbered(losses, first, roads_many):
    """The dict from all that comes about from some elements by losses to numbers, counted from 0."""
    found = {}
    waiting = list(first)
    while waiting:
        element = waiting.pop()
        if element not in found:
            found[element] = len(found)
            waiting.extend([losses.lose(element, road) for road in range(roads_many)])
        if len(found) > 2000:
            raise TooMany(2000)
    return found


def elements_in(guide, losses):
    """The list of the tuples of the elements of all worths of each form, in order."""
    rows = []
    for spot, numbers in enumerate(guide.tests):
        rows.append(tuple([losses.element_for(spot, number, ()) for number in numbers]))
    return rows


def places_in(rows, found):
    """The places of all worths of each form, as a dict numbers their elements."""
    return tuple([tuple([found[element] for element in row]) for row in rows])


def whole_of(house):
    """A whole of the house, in which each number is a place, or what some losses make of one."""
    guide = finite_guide(house)
    losses = Losses(guide)
    rows = elements_in(guide, losses)
    found = numbered(losses, [element for row in rows for element in row], len(house[1]))
    maps = [tuple([found[losses.lose(element, road)] for element in found]) for road in range(len(house[1]))]
    return (len(found), places_in(rows, found), tuple(maps))
