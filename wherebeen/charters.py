"""Charters: turns of a form, settled and changing places, that what is done there keeps to."""

from wherebeen.errors import TooMany
from wherebeen.forms import is_tuple, is_turn
from wherebeen.guide import Guide, doing_of
from wherebeen.ways import simple_ways


def form_guide(form):
    """A guide of the house of a form alone; raises TooMany(500) if it has more tests."""
    return Guide(((form,), ()))


def doings_of(guide, spot, turns):
    """The list of what each of some turns of a form into itself does."""
    return [doing_of(guide, spot, (turn,)) for turn in turns]


def is_settled_doing(tests, doing):
    """Whether something done twice to all tests does the same as done once."""
    once = doing.done_all(tests)
    return doing.done_all(once) == once


def do_change_places(tests, one, other):
    """Whether for all tests it makes no difference which of two things is done first."""
    return one.done_all(other.done_all(tests)) == other.done_all(one.done_all(tests))


def is_charter(form, thing):
    """Whether any value is a charter of a form."""
    guide = form_guide(form)
    if not is_tuple(thing, 0, 8) or not all([is_turn(form, form, turn) for turn in thing]):
        return False
    tests = guide.tests[0]
    doings = doings_of(guide, 0, thing)
    if not all([is_settled_doing(tests, doing) for doing in doings]):
        return False
    return all([do_change_places(tests, one, other) for at, one in enumerate(doings) for other in doings[:at]])


def lot_by(tests, doings, outcomes):
    """As lot_of, of the doings of a charter and what the turn makes of all tests."""
    lot = tuple([at for at, doing in enumerate(doings) if doing.done_all(outcomes) == outcomes])
    # if the turn is of the charter, those that do it are among these, and the others change nothing behind them
    done = tests
    for at in lot:
        done = doings[at].done_all(done)
    return lot if done == outcomes else None


def lot_of(form, charter, turn):
    """The indexes of all turns of a charter that change nothing behind a turn, None if it is not of the charter."""
    guide = form_guide(form)
    tests = guide.tests[0]
    return lot_by(tests, doings_of(guide, 0, charter), doing_of(guide, 0, (turn,)).done_all(tests))


def breaking_way(house, spot, charter):
    """The least simple way from a form whose return is not of a charter of it, None if there is none."""
    guide = Guide(house, (spot,))
    tests = guide.tests[spot]
    doings = doings_of(guide, spot, charter)
    for way in simple_ways(house, spot):
        if lot_by(tests, doings, guide.returned_all(way, tests)) is None:
            return way
    return None


def joins(friends, lot, at):
    """Whether a turn changes places with all turns of a lot, friends telling for each turn the list of such."""
    return all([near in friends[at] for near in lot])


def friendly_lots(friends):
    """The list of all lots of turns that change places with one another."""
    lots = [()]
    for at in friends:
        lots = lots + [(*lot, at) for lot in lots if joins(friends, lot, at)]
    return lots


def greatest_charters(form, turns):
    """The ascending list of the tuples of indexes of turns that are a charter and lie in no other such one."""
    if len(turns) > 12:
        raise TooMany(12)
    guide = form_guide(form)
    tests = guide.tests[0]
    doings = doings_of(guide, 0, turns)
    settled = [at for at, doing in enumerate(doings) if is_settled_doing(tests, doing)]
    friends = {}
    for at in settled:
        friends[at] = [near for near in settled if do_change_places(tests, doings[at], doings[near])]
    lots = friendly_lots(friends)
    return sorted([lot for lot in lots if not any([new not in lot and joins(friends, lot, new) for new in settled])])
