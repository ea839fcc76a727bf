"""The faults that a house has if what a worth becomes hangs on more than the roads gone and the last form."""

from wherebeen.forms import is_index, is_integer, is_tuple, is_way, is_worth
from wherebeen.guide import Guide, ask_few
from wherebeen.returns import both_returns
from wherebeen.ways import led, return_of, rings_of, simple_ways


def road_ways(house, index, side):
    """The way over a road from one of its sides, and that goes there, back and there again."""
    road = house[1][index]
    way = (road[side], road[1 - side])
    return (way, way + way)


def road_faults(guide):
    """The list of the faults of single roads, in order."""
    found = []
    for index in range(len(guide.house[1])):
        for side in (0, 1):
            way, again = road_ways(guide.house, index, side)
            test = guide.parting(way, again)
            if test is not None:
                found.append(("road", index, side, test))
    return found


def sorted_out(guide, spot, ways):
    """For each of the simple ways from a form, the first one of them whose return does the same, and the outcomes."""
    firsts = {}
    rows = []
    for way in ways:
        outcomes = guide.returned_all(way, guide.tests[spot])
        first = firsts.setdefault(tuple(outcomes), way)
        rows.append((first, outcomes))
    return rows


def return_faults(guide, spot):
    """The list of the faults of the returns by two simple ways from a form, in order."""
    ways = simple_ways(guide.house, spot)
    rows = sorted_out(guide, spot, ways)
    # many returns do the same, so that each pair of unlike ones is looked at only once
    known = {}
    found = []
    for at, (one, ones) in enumerate(rows):
        for later in range(at + 1, len(rows)):
            other, others = rows[later]
            if (one, other) not in known:
                both, turned_about = guide.returned_all(other, ones), guide.returned_all(one, others)
                known[(one, other)] = guide.first_unlike(spot, both, turned_about)
            if known[(one, other)] is not None:
                found.append(("returns", ways[at], ways[later], known[(one, other)]))
    return found


def ring_faults(guide):
    """The list of the faults of rings, in order."""
    pairs = [(ring, guide.parting(ring, return_of(ring))) for ring in rings_of(guide.house)]
    return [("ring", ring, test) for ring, test in pairs if test is not None]


def first_fault_by(guide):
    """The first fault of the house of a guide, None if there is none."""
    found = road_faults(guide)
    for spot in range(len(guide.near)):
        if not found:
            found = return_faults(guide, spot)
    if not found:
        found = ring_faults(guide)
    return found[0] if found else None


def faults_by(guide):
    """The list of all faults of the house of a guide, in order, each with its first test."""
    found = road_faults(guide)
    for spot in range(len(guide.near)):
        found.extend(return_faults(guide, spot))
    return found + ring_faults(guide)


def first_fault(house):
    """The first fault of a house with its first test, None if the house is good."""
    return first_fault_by(Guide(house))


def faults_of(house):
    """The list of all faults of a house, in order, each with its first test."""
    return faults_by(Guide(house))


def is_simple(house, thing):
    """Whether any value is a simple way of a house."""
    return is_way(house, thing) and len(set(thing)) == len(thing)


def is_ring(house, thing):
    """Whether any value is a ring of a house."""
    return is_way(house, thing) and len(thing) > 3 and thing[0] == thing[-1] and is_simple(house, thing[1:])


def is_fault_head(house, thing):
    """Whether any value is a tuple that names what may have a fault, with something in the place of the worth."""
    if not is_tuple(thing, 3, 4) or not isinstance(thing[0], str):
        return False
    if thing[0] == "road" and len(thing) == 4:
        return is_index(house[1], thing[1]) and is_integer(thing[2]) and 0 <= thing[2] <= 1
    if thing[0] == "returns" and len(thing) == 4:
        if not is_simple(house, thing[1]) or not is_simple(house, thing[2]):
            return False
        return thing[1][0] == thing[2][0] and thing[1] < thing[2]
    return thing[0] == "ring" and len(thing) == 3 and is_ring(house, thing[1])


def fault_ways(house, fault):
    """The two ways that a fault gives, with the same roads gone, the same first and the same last form."""
    if fault[0] == "road":
        return road_ways(house, fault[1], fault[2])
    if fault[0] == "returns":
        return (both_returns(fault[1], fault[2]), both_returns(fault[2], fault[1]))
    return (fault[1], return_of(fault[1]))


def is_fault(house, thing):
    """Whether any value is a fault of a house; its worth may be any one that comes out unlike."""
    ask_few(house)
    if not is_fault_head(house, thing):
        return False
    way, other = fault_ways(house, thing)
    if not is_worth(house[0][way[0]], thing[-1]):
        return False
    return led(house, way, thing[-1]) != led(house, other, thing[-1])


def is_good(house):
    """Whether what any worth becomes by any way hangs only on it, its form, the roads gone and the last form."""
    return first_fault(house) is None
