"""Houses: their roads, and the houses that come about by leaving out and counting anew."""

from wherebeen.errors import FallsApart, NoRoad
from wherebeen.forms import near_spots, pairs_of, reached


def neighbours(house, spot):
    """The ascending list of the indexes of the forms to which a road leads from a form."""
    return sorted(near_spots(spot, pairs_of(house[1])))


def road_between(house, one, other):
    """The index of the road between two forms, None if there is none."""
    pairs = pairs_of(house[1])
    pair = (min(one, other), max(one, other))
    return pairs.index(pair) if pair in pairs else None


def step_turn(house, one, other):
    """The turn from a form to a neighbour."""
    index = road_between(house, one, other)
    if index is None:
        raise NoRoad(one, other)
    return house[1][index][2] if one < other else house[1][index][3]


def hangs_together(house, lot):
    """Whether by the roads of a lot one can come from each form at one of them to each other such form."""
    pairs = pairs_of([house[1][index] for index in lot])
    ends = sorted({spot for pair in pairs for spot in pair})
    return not ends or reached(ends[0], pairs) == ends


def ask_joined(spots, roads):
    """Raises FallsApart if one cannot come by roads from the first one of some spots to all others."""
    found = reached(spots[0], pairs_of(roads))
    for spot in spots:
        if spot not in found:
            raise FallsApart(spot)


def without_roads(house, lot):
    """The house without the roads of a lot."""
    forms, roads = house
    left = tuple([road for index, road in enumerate(roads) if index not in lot])
    ask_joined(list(range(len(forms))), left)
    return (forms, left)


def counted_anew(house, spots):
    """The house of the forms with these indexes, in this order, and the roads between them."""
    forms, roads = house
    place = {spot: at for at, spot in enumerate(spots)}
    found = []
    for one, other, there, back in roads:
        if one in place and other in place and place[one] < place[other]:
            found.append((place[one], place[other], there, back))
        elif one in place and other in place:
            found.append((place[other], place[one], back, there))
    found = sorted(found, key=lambda road: (road[0], road[1]))
    return (tuple([forms[spot] for spot in spots]), tuple(found))


def part_of(house, spots):
    """The house of the forms with these indexes, which ascend, and the roads between them."""
    ask_joined(spots, [road for road in house[1] if road[0] in spots and road[1] in spots])
    return counted_anew(house, spots)


def renumbered(house, order):
    """The house whose form with an index is the form of this house whose index order has there."""
    return counted_anew(house, order)
