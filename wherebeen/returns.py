"""The returns by ways: all of a way, and then back to its first form."""

from wherebeen.guide import Guide, ask_few
from wherebeen.ways import led, return_of, simple_ways


def returned(house, way, worth):
    """What the return by a way makes of a worth of its first form."""
    ask_few(house)
    return led(house, return_of(way), worth)


def both_returns(way, other):
    """The way of the returns by two ways with one first form, that by the former first."""
    return return_of(way) + return_of(other)[1:]


def is_lossless(house, way):
    """Whether the return by a way leaves all worths as they are."""
    return Guide(house).parting(way[:1], return_of(way)) is None


def unlike_return(house, way, other):
    """The first test for which the returns by two ways do not change places, None if they do for all worths."""
    return Guide(house).parting(both_returns(way, other), both_returns(other, way))


def change_returns(house, way, other):
    """Whether the returns by two ways with one first form change places."""
    return unlike_return(house, way, other) is None


def unlike_way(guide, spot, doing):
    """The least simple way from a form whose return does not change places with what is done there, or None.

    It is a tuple of the way and of the first test for which both orders give unlike worths.
    """
    tests = guide.tests[spot]
    done = doing.done_all(tests)
    for way in simple_ways(guide.house, spot):
        back_first = doing.done_all(guide.returned_all(way, tests))
        test = guide.first_unlike(spot, guide.returned_all(way, done), back_first)
        if test is not None:
            return (way, test)
    return None
