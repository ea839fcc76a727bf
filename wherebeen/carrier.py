"""Leads documents from form to form, and keeps where they have been."""

from wherebeen.errors import NoCopy, NoRoad, Nothing, Taken, ask
from wherebeen.forms import is_house, is_index, is_integer, is_name, is_worth
from wherebeen.houses import road_between, step_turn
from wherebeen.turns import turned


class Carrier:
    """Documents with names, each in one form of a house.

    Each step that a document has made is a tuple (spot, worth, road, earlier): the form to which it came, what it
    became there, the road, and the index of the step ahead of it; the last two are None where it was put. A copy
    shares the steps that were made before it was forked, so that long ways are not kept over and over.
    """

    def __init__(self, house):
        ask(0, is_house(house))
        self._house = house
        self._steps = []
        self._last = {}
        self._deeds = []

    def _last_of(self, name):
        """The index of the last step of the document with a name, any value."""
        if not is_name(name) or name not in self._last:
            raise NoCopy(name)
        return self._last[name]

    def _steps_of(self, name):
        """The list of the steps of the document with a name, any value, the first one first."""
        steps = []
        index = self._last_of(name)
        while index is not None:
            steps.append(self._steps[index])
            index = self._steps[index][3]
        return steps[::-1]

    def _keep(self, deed, name):
        """Keeps a deed that is about to be done, and what there is of the document that it changes."""
        self._deeds.append((deed, self._last.get(name), name, len(self._steps)))

    def _add_step(self, name, step):
        """Puts a step behind all others, as the last one of the document with a name."""
        self._last[name] = len(self._steps)
        self._steps.append(step)

    def put(self, name, spot, worth):
        """Takes up a document."""
        ask(0, is_name(name))
        ask(1, is_index(self._house[0], spot))
        ask(2, is_worth(self._house[0][spot], worth))
        if name in self._last:
            raise Taken(name)
        self._keep(("put", name, spot, worth), name)
        self._add_step(name, (spot, worth, None, None))

    def go(self, name, spot):
        """Leads a document to a neighbour of its form."""
        last = self._last_of(name)
        here = self._steps[last][0]
        road = road_between(self._house, here, spot) if is_integer(spot) else None
        if road is None:
            raise NoRoad(here, spot)
        outcome = turned(step_turn(self._house, here, spot), self._steps[last][1])
        self._keep(("go", name, spot), name)
        self._add_step(name, (spot, outcome, road, last))

    def fork(self, name, fresh):
        """Takes up a copy of a document, that has been where it has been."""
        ask(1, is_name(fresh))
        last = self._last_of(name)
        if fresh in self._last:
            raise Taken(fresh)
        self._keep(("fork", name, fresh), fresh)
        self._last[fresh] = last

    def drop(self, name):
        """Gives a document up."""
        self._last_of(name)
        self._keep(("drop", name), name)
        del self._last[name]

    def spot_of(self, name):
        """The index of the form in which a document is."""
        return self._steps[self._last_of(name)][0]

    def worth_of(self, name):
        """The worth of a document in its form."""
        return self._steps[self._last_of(name)][1]

    def way_of(self, name):
        """The way that a document has come."""
        return tuple([step[0] for step in self._steps_of(name)])

    def gone_of(self, name):
        """The ascending tuple of the indexes of the roads that a document has gone."""
        return tuple(sorted({step[2] for step in self._steps_of(name) if step[2] is not None}))

    def names_now(self):
        """The ascending list of the names of all documents."""
        return sorted(self._last)

    def deeds_done(self):
        """The list of the deeds that stand."""
        return [kept[0] for kept in self._deeds]

    def undo(self):
        """Takes the last deed back and returns it."""
        if not self._deeds:
            raise Nothing()
        deed, last, name, many = self._deeds.pop()
        del self._steps[many:]
        if last is None:
            del self._last[name]
        else:
            self._last[name] = last
        return deed

    def copied(self):
        """An independent Carrier with the same house, documents and deeds."""
        twin = Carrier(self._house)
        twin._steps = list(self._steps)
        twin._last = dict(self._last)
        twin._deeds = list(self._deeds)
        return twin

    def _documents(self):
        """A dict from the names of all documents to their ways and worths."""
        return {name: (self.way_of(name), self.worth_of(name)) for name in self._last}

    def __eq__(self, other):
        if not isinstance(other, Carrier):
            return False
        return self._house == other._house and self._documents() == other._documents()
