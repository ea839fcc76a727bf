"""Leads worths over the roads of a house again and again, and keeps what becomes of each."""

from wherebeen.errors import TooMany
from wherebeen.houses import neighbours, step_turn
from wherebeen.probes import tests_many, tests_of
from wherebeen.turns import turned, turned_by_all


def ask_few(house):
    """Raises TooMany(500) if some form of a house has more than 500 tests."""
    if max([tests_many(form) for form in house[0]]) > 500:
        raise TooMany(500)


class Guide:
    """Leads worths, each known by the number that it was given in its form when it came up first.

    It is made of a house whose forms have no more than 500 tests each; of any other one TooMany(500) is raised. The
    tests of a form come up ahead of all its other worths, in order. Those of a FINITE form are all its worths, in
    order, so that the number of such a worth is its place. If some forms are told, only these are asked for tests; it
    has none of the others.
    """

    def __init__(self, house, spots=None):
        forms = house[0]
        asked = list(range(len(forms))) if spots is None else spots
        self.house = house
        self.near = [neighbours(house, spot) for spot in range(len(forms))]
        self._worths = [tests_of(form) if spot in asked else [] for spot, form in enumerate(forms)]
        self.tests = [list(range(len(worths))) for worths in self._worths]
        self._numbers = [{worth: number for number, worth in enumerate(worths)} for worths in self._worths]
        pairs = [(spot, near) for spot in range(len(forms)) for near in self.near[spot]]
        self._turns = {(spot, near): step_turn(house, spot, near) for spot, near in pairs}
        self._outcomes = {pair: {} for pair in pairs}
        self._returns = {}

    def number_for(self, spot, worth):
        """The number of a worth of a form."""
        numbers = self._numbers[spot]
        if worth not in numbers:
            numbers[worth] = len(numbers)
            self._worths[spot].append(worth)
        return numbers[worth]

    def worth_for(self, spot, number):
        """The worth of a form that has a number."""
        return self._worths[spot][number]

    def step(self, one, other, number):
        """What a worth of a form becomes in a neighbour."""
        outcomes = self._outcomes[(one, other)]
        if number not in outcomes:
            worth = turned(self._turns[(one, other)], self._worths[one][number])
            outcomes[number] = self.number_for(other, worth)
        return outcomes[number]

    def steps(self, one, other, numbers):
        """The list of what some worths of a form become in a neighbour."""
        outcomes = self._outcomes[(one, other)]
        for number in numbers:
            if number not in outcomes:
                self.step(one, other, number)
        return [outcomes[number] for number in numbers]

    def led_all(self, way, numbers):
        """The list of what some worths become by a way."""
        found = numbers
        for one, other in zip(way, way[1:]):
            found = self.steps(one, other, found)
        return found

    def returned_all(self, way, numbers):
        """The list of what the return by a simple way makes of some worths."""
        if len(way) == 1:
            return numbers
        made = self._returns.setdefault(way, {})
        fresh = [number for number in numbers if number not in made]
        if fresh:
            over = self.returned_all(way[1:], self.steps(way[0], way[1], fresh))
            for number, outcome in zip(fresh, self.steps(way[1], way[0], over)):
                made[number] = outcome
        return [made[number] for number in numbers]

    def first_unlike(self, spot, ones, others):
        """The first test of a form of which two lists, with an item for each test, have unlike items, or None."""
        for number, one, other in zip(self.tests[spot], ones, others):
            if one != other:
                return self._worths[spot][number]
        return None

    def parting(self, one, other):
        """The first test of the first form of two ways that becomes unlike by them, or None."""
        tests = self.tests[one[0]]
        return self.first_unlike(one[0], self.led_all(one, tests), self.led_all(other, tests))


class Doing:
    """Something that is done in a form to the worths that a guide numbers, and what came of each.

    lead tells what comes of a worth; it is asked only once for each.
    """

    def __init__(self, guide, spot, lead):
        self._guide = guide
        self._spot = spot
        self._lead = lead
        self._outcomes = {}

    def done_all(self, numbers):
        """The list of what comes of some worths."""
        lead = self._lead
        for number in numbers:
            if number not in self._outcomes:
                worth = lead(self._guide.worth_for(self._spot, number))
                self._outcomes[number] = self._guide.number_for(self._spot, worth)
        return [self._outcomes[number] for number in numbers]


def doing_of(guide, spot, turns):
    """What some turns do in a form that leads into itself by them, one behind the other."""
    return Doing(guide, spot, lambda worth: turned_by_all(turns, worth))
