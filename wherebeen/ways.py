"""Ways: what they do to worths, and which there are."""

from wherebeen.houses import neighbours, road_between, step_turn
from wherebeen.probes import unlike_test
from wherebeen.turns import behind, plain_turn, turned, turned_by_all


def way_turns(house, way):
    """The list of the turns of the roads of a way, there or back as the way has it."""
    return [step_turn(house, one, other) for one, other in zip(way, way[1:])]


def steps_of(house, way, worth):
    """The list of what a worth is in each of the forms of a way, itself first."""
    worths = [worth]
    for turn in way_turns(house, way):
        worths.append(turned(turn, worths[-1]))
    return worths


def led(house, way, worth):
    """What a worth becomes by a way."""
    return turned_by_all(way_turns(house, way), worth)


def gone_of(house, way):
    """The ascending tuple of the indexes of the roads of a way."""
    return tuple(sorted({road_between(house, one, other) for one, other in zip(way, way[1:])}))


def return_of(way):
    """The way that goes all of a way, and then back to its first form."""
    return way + way[:-1][::-1]


def turn_of(house, way):
    """The turn that a way does."""
    done = plain_turn(house[0][way[0]])
    for turn in way_turns(house, way):
        done = behind(done, turn)
    return done


def simple_ways(house, spot):
    """The ascending list of all simple ways of at least two items that begin with a form."""
    found = []
    waiting = [(spot,)]
    while waiting:
        way = waiting.pop()
        longer = [way + (near,) for near in neighbours(house, way[-1]) if near not in way]
        found.extend(longer)
        waiting.extend(longer)
    return sorted(found)


def rings_of(house):
    """The ascending list of all rings: from each form in them, both ways about."""
    found = []
    for spot in range(len(house[0])):
        near = neighbours(house, spot)
        ways = simple_ways(house, spot)
        found.extend([way + (spot,) for way in ways if len(way) > 2 and way[-1] in near])
    return sorted(found)


def parting_worth(house, one, other):
    """The first test of the first form of two ways that comes out unlike by them, None if all worths come out alike."""
    return unlike_test(house[0][one[0]], way_turns(house, one), way_turns(house, other))


def same_ways(house, one, other):
    """Whether two ways do the same to all worths."""
    return parting_worth(house, one, other) is None
