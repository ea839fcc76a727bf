"""Roads that may be added to a house."""

from wherebeen.errors import TooMany
from wherebeen.faults import first_fault
from wherebeen.guide import ask_few
from wherebeen.probes import unlike_test
from wherebeen.ways import return_of, turn_of, way_turns


def house_with(house, road):
    """The house with a road more, put among the others."""
    forms, roads = house
    if len(roads) > 8:
        raise TooMany(9)
    return (forms, tuple(sorted([*roads, road], key=lambda one: (one[0], one[1]))))


def may_add(house, road):
    """None if the house with a road more is good, otherwise its first fault."""
    ask_few(house)
    return first_fault(house_with(house, road))


def road_by(house, way):
    """A road that does, there and back, what a simple way does from the lesser of its ends to the other, and back."""
    there = way if way[0] < way[-1] else way[::-1]
    return (there[0], there[-1], turn_of(house, there), turn_of(house, there[::-1]))


def agrees(house, road, way):
    """Whether it makes no difference, behind the returns by a way and over a road, which of the two is gone."""
    ask_few(house)
    over, home = (road[2], road[3]) if way[0] == road[0] else (road[3], road[2])
    ahead = way_turns(house, return_of(way)) + [over, home]
    return unlike_test(house[0][way[0]], ahead + way_turns(house, way), ahead + [over]) is None
