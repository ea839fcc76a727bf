"""A good house without rings, of FINITE forms, as one hub, in numbers: places for worths, and a look for each form."""

from wherebeen.errors import HasRing
from wherebeen.losses import Losses
from wherebeen.numbers import are_maps, are_settled, elements_in, finite_guide, follows, places_in
from wherebeen.ways import rings_of, simple_ways


def hub_guide(house):
    """A guide of a good house of FINITE forms without rings; raises as finite_guide, then HasRing with the least."""
    guide = finite_guide(house)
    rings = rings_of(house)
    if rings:
        raise HasRing(rings[0])
    return guide


def has_look(guide, spot, places, looks):
    """Whether the look of a form leads to just the places of its worths, and all ways from the form follow looks."""
    if set(looks[spot]) != set(places[spot]):
        return False
    return all([follows(guide, way, places, looks[way[-1]]) for way in simple_ways(guide.house, spot)])


def is_hub(house, thing):
    """Whether any value is a hub of the house."""
    guide = hub_guide(house)
    if not are_maps(guide, len(house[0]), thing) or not are_settled(thing[2]):
        return False
    return all([has_look(guide, spot, thing[1], thing[2]) for spot in range(len(house[0]))])


def ways_between(house):
    """The dict from all pairs of forms to the simple way from the one to the other, in a house without rings."""
    found = {}
    for spot in range(len(house[0])):
        found[(spot, spot)] = (spot,)
        for way in simple_ways(house, spot):
            found[(spot, way[-1])] = way
    return found


def hub_of(house):
    """A hub of the house, with as few numbers as can be."""
    guide = hub_guide(house)
    losses = Losses(guide)
    rows = elements_in(guide, losses)
    found = {}
    for row in rows:
        for element in row:
            found.setdefault(element, len(found))
    ways = ways_between(house)
    looks = []
    for spot in range(len(house[0])):
        # an element is led from the first of its homes; from any other one it comes to the same
        seen = [guide.led_all(ways[(home, spot)], [number])[0] for home, number, _ in found]
        looks.append(tuple([found[rows[spot][number]] for number in seen]))
    return (len(found), places_in(rows, found), tuple(looks))


def hub_size(house):
    """How many numbers a hub of the house has that has as few as can be."""
    guide = hub_guide(house)
    size = sum([len(numbers) for numbers in guide.tests])
    for road in house[1]:
        numbers = guide.tests[road[0]]
        back = guide.led_all((road[0], road[1], road[0]), numbers)
        size -= len([number for number, outcome in zip(numbers, back) if number == outcome])
    return size
