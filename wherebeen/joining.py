"""Two houses that are joined in a form that both have."""

from wherebeen.errors import TooMany, Unlike
from wherebeen.guide import Doing, ask_few
from wherebeen.parted import good_guide
from wherebeen.ways import simple_ways


def ask_equal(house, spot, other, its_spot):
    """Raises Unlike if two houses do not have equal forms at these indexes."""
    if house[0][spot] != other[0][its_spot]:
        raise Unlike()


def spots_joined(house, spot, other, its_spot):
    """The list of the indexes that the forms of the other house have in the joined one."""
    ask_equal(house, spot, other, its_spot)
    first = len(house[0])
    spots = list(range(first, first + len(other[0]) - 1))
    return spots[:its_spot] + [spot] + spots[its_spot:]


def turned_about(road):
    """The road, turned about if its forms do not ascend."""
    one, other, there, back = road
    return road if one < other else (other, one, back, there)


def joined(house, spot, other, its_spot):
    """The house that two houses are, joined in two equal forms."""
    spots = spots_joined(house, spot, other, its_spot)
    forms = house[0] + other[0][:its_spot] + other[0][its_spot + 1:]
    if len(forms) > 6:
        raise TooMany(6)
    moved = [turned_about((spots[one], spots[near], there, back)) for one, near, there, back in other[1]]
    if len(house[1]) + len(moved) > 9:
        raise TooMany(9)
    return (forms, tuple(sorted([*house[1], *moved], key=lambda road: (road[0], road[1]))))


def return_doing(guide, spot, way, mine, my_spot):
    """What the return by a simple way of one guide's house does, for another guide and its equal form."""
    def lead(worth):
        outcome = guide.returned_all(way, [guide.number_for(spot, worth)])[0]
        return guide.worth_for(spot, outcome)
    return Doing(mine, my_spot, lead)


def join_fault(house, spot, other, its_spot):
    """None if the joined house is good, otherwise ways of both whose returns do not change places, and a test."""
    ask_equal(house, spot, other, its_spot)
    ask_few(house)
    ask_few(other)
    guide, its_guide = good_guide(house), good_guide(other)
    tests = guide.tests[spot]
    doings = [(way, return_doing(its_guide, its_spot, way, guide, spot)) for way in simple_ways(other, its_spot)]
    for way in simple_ways(house, spot):
        outcomes = guide.returned_all(way, tests)
        for its_way, doing in doings:
            test = guide.first_unlike(spot, doing.done_all(outcomes), guide.returned_all(way, doing.done_all(tests)))
            if test is not None:
                return (way, its_way, test)
    return None
