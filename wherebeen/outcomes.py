"""What worths become by all ways with the same roads gone."""

from wherebeen.errors import TooMany
from wherebeen.guide import Guide, ask_few
from wherebeen.houses import road_between
from wherebeen.worths import sorted_worths


def is_at(house, spot, lot, road):
    """Whether a road that is not in a lot hangs together with it, or is at the form if the lot is empty."""
    ends = [end for index in lot for end in house[1][index][:2]] if lot else [spot]
    return road not in lot and (house[1][road][0] in ends or house[1][road][1] in ends)


def gone_lots(house, spot):
    """The ascending list of the tuples of the roads of all ways that begin at a form."""
    ask_few(house)
    found = {(): True}
    waiting = [()]
    while waiting:
        lot = waiting.pop()
        fresh = [road for road in range(len(house[1])) if is_at(house, spot, lot, road)]
        for road in fresh:
            longer = tuple(sorted([*lot, road]))
            if longer not in found:
                found[longer] = True
                waiting.append(longer)
    return sorted(found)


def exits_of(guide):
    """For each form, the list of its neighbours, each with a number whose bits tell the index of the road to it."""
    exits = []
    for spot, spots in enumerate(guide.near):
        exits.append([(near, 1 << road_between(guide.house, spot, near)) for near in spots])
    return exits


def reached_states(guide, spot, number):
    """The list of all tuples (gone, last, number) of what a worth becomes, gone telling roads by its bits."""
    exits = exits_of(guide)
    states = [(0, spot, number)]
    found = {states[0]: True}
    waiting = [states[0]]
    while waiting:
        gone, last, here = waiting.pop()
        for near, bit in exits[last]:
            state = (gone | bit, near, guide.step(last, near, here))
            if state not in found:
                found[state] = True
                states.append(state)
                waiting.append(state)
        if len(states) > 20000:
            raise TooMany(20000)
    return states


def outcome_numbers(guide, spot, worth):
    """The dict from all tuples (gone, last) as in reached_states to the lists of what a worth becomes by such ways."""
    found = {}
    for gone, last, number in reached_states(guide, spot, guide.number_for(spot, worth)):
        found.setdefault((gone, last), []).append(number)
    return found


def roads_in(gone):
    """The ascending tuple of the indexes of the roads that the bits of a number tell."""
    return tuple([road for road in range(gone.bit_length()) if gone >> road & 1])


def outcomes(house, spot, worth):
    """The dict from all tuples (gone, last) to the ordered lists of what a worth becomes by the ways with it."""
    guide = Guide(house)
    found = {}
    for (gone, last), numbers in outcome_numbers(guide, spot, worth).items():
        worths = [guide.worth_for(last, number) for number in numbers]
        found[(roads_in(gone), last)] = sorted_worths(house[0][last], worths)
    return {pair: found[pair] for pair in sorted(found)}


def hangs_on_gone(house, spot, worth):
    """Whether what a worth becomes hangs only on the roads gone and the last form."""
    numbers = outcome_numbers(Guide(house), spot, worth)
    return all([len(alike) == 1 for alike in numbers.values()])


def tests_hang_on_gone(guide, spot):
    """Whether what each test of a form becomes hangs only on the roads gone and the last form."""
    exits = exits_of(guide)
    found = {(0, spot): guide.tests[spot]}
    waiting = [(0, spot)]
    while waiting:
        gone, last = waiting.pop()
        for near, bit in exits[last]:
            pair = (gone | bit, near)
            numbers = guide.steps(last, near, found[(gone, last)])
            if pair not in found:
                found[pair] = numbers
                waiting.append(pair)
            elif found[pair] != numbers:
                return False
    return True


def is_good_by_all(house):
    """Whether what each test of each form becomes hangs only on the roads gone and the last form."""
    guide = Guide(house)
    for spot in range(len(house[0])):
        if not tests_hang_on_gone(guide, spot):
            return False
    return True
