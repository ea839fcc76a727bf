"""What worths can become by any ways, and what surely comes through."""

from wherebeen.errors import TooMany
from wherebeen.guide import Guide
from wherebeen.worths import field_names, field_of, sorted_worths

MOST = 20000


def spread(guide, first):
    """The dict from all tuples (spot, number) that some of them become by any ways; it may end behind MOST."""
    found = {state: True for state in first}
    waiting = list(first)
    while waiting and len(found) <= MOST:
        spot, number = waiting.pop()
        for near in guide.near[spot]:
            state = (near, guide.step(spot, near, number))
            if state not in found:
                found[state] = True
                waiting.append(state)
    return found


def become(house, spot, worth):
    """The dict from the indexes of all forms to the ordered lists of what a worth becomes there by any ways."""
    guide = Guide(house)
    found = spread(guide, [(spot, guide.number_for(spot, worth))])
    if len(found) > MOST:
        raise TooMany(MOST)
    worths = {last: [] for last in range(len(house[0]))}
    for last, number in found:
        worths[last].append(guide.worth_for(last, number))
    return {last: sorted_worths(house[0][last], worths[last]) for last in worths}


def ask_spread(guide, spot):
    """Raises TooMany(20000) if some test of a form becomes more worths."""
    tests = [(spot, number) for number in guide.tests[spot]]
    if len(spread(guide, tests)) <= MOST:
        return
    for test in tests:
        if len(spread(guide, [test])) > MOST:
            raise TooMany(MOST)


def is_lost(guide, spot, at, state):
    """Whether in a state, a tuple (value, last, number), a test with this value in a field is back without it."""
    value, last, number = state
    return last == spot and guide.worth_for(spot, number)[at] != value


def later_states(guide, state):
    """The list of the states to which one comes from a state by one road each."""
    value, last, number = state
    return [(value, near, guide.step(last, near, number)) for near in guide.near[last]]


def levels_to_loss(guide, spot, at):
    """The list of the lists of the states of all tests of a form after so many steps, told where they come up first.

    It ends with the first list in which the field with an index is lost; it is empty if the field is sure.
    """
    level = [(guide.worth_for(spot, number)[at], spot, number) for number in guide.tests[spot]]
    seen = {state: True for state in level}
    levels = []
    while level:
        levels.append(level)
        if any([is_lost(guide, spot, at, state) for state in level]):
            return levels
        fresh = []
        for state in level:
            for later in later_states(guide, state):
                if later not in seen:
                    seen[later] = True
                    fresh.append(later)
        level = fresh
    return []


def levels_on_way(guide, spot, at, levels):
    """The list of the dicts of those states of levels_to_loss from which one comes to the loss by its last step."""
    wanted = {state: True for state in levels[-1] if is_lost(guide, spot, at, state)}
    found = [wanted]
    for level in reversed(levels[:-1]):
        wanted = {state: True for state in level if any([later in wanted for later in later_states(guide, state)])}
        found.append(wanted)
    return found[::-1]


def least_way(guide, levels):
    """The least way by which some state of the first level comes to one of each later level, and of the last one."""
    live = list(levels[0])
    way = (live[0][1],)
    for level in levels[1:]:
        later = [state for earlier in live for state in later_states(guide, earlier) if state in level]
        least = min([state[1] for state in later])
        live = [state for state in later if state[1] == least]
        way = way + (least,)
    return way


def sure_fields(house, spot):
    """The tuple of the names of the fields of a form that come back as they were by each way."""
    guide = Guide(house)
    ask_spread(guide, spot)
    names = field_names(house[0][spot])
    return tuple([name for at, name in enumerate(names) if not levels_to_loss(guide, spot, at)])


def lost_field_by(guide, spot, at):
    """As lost_field, of the field with an index, in a house whose worths do not become too many."""
    levels = levels_to_loss(guide, spot, at)
    if not levels:
        return None
    way = least_way(guide, levels_on_way(guide, spot, at, levels))
    tests = guide.tests[spot]
    kept = [guide.worth_for(spot, number)[at] for number in guide.led_all(way, tests)]
    return (way, guide.first_unlike(spot, [guide.worth_for(spot, number)[at] for number in tests], kept))


def lost_field(house, spot, name):
    """None if a field of a form is sure, otherwise the shortest way that loses it, and the first test that lost it."""
    guide = Guide(house)
    at = field_of(house[0][spot], name)
    ask_spread(guide, spot)
    return lost_field_by(guide, spot, at)
