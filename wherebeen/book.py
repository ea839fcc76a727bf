"""A house that stays good, and what was promised of it."""

from wherebeen.deeds import is_deed, unlike_deed_by
from wherebeen.errors import FallsApart, Joined, NotKept, Nothing, ask
from wherebeen.fates import lost_field_by
from wherebeen.forms import is_form, is_house, is_index, is_tuple, is_turn
from wherebeen.guide import Guide
from wherebeen.houses import part_of, road_between, without_roads
from wherebeen.newforms import with_form
from wherebeen.parted import good_guide
from wherebeen.shortcuts import house_with
from wherebeen.worths import field_names, field_of


def is_promise(house, thing):
    """Whether any value is a promise about a form of a house."""
    if not is_tuple(thing, 3, 3) or not is_index(house[0], thing[1]):
        return False
    if thing[0] == "sure":
        return thing[2] in field_names(house[0][thing[1]])
    return thing[0] == "order" and is_deed(house, thing[1:])


def promise_fault(guide, promise):
    """None if a promise holds in the good house of a guide, otherwise what tells that it does not."""
    label, spot, thing = promise
    if label == "sure":
        return lost_field_by(guide, spot, field_of(guide.house[0][spot], thing))
    return unlike_deed_by(guide, (spot, thing))


def promise_without(promise, gone):
    """The promise about the same form, once another form is gone."""
    label, spot, thing = promise
    return (label, spot - 1 if spot > gone else spot, thing)


class Book:
    """A house and a tuple of promises, and for each change that stands what both were ahead of it."""

    def __init__(self, house):
        ask(0, is_house(house))
        good_guide(house)
        self._house = house
        self._promises = ()
        self._earlier = []

    def _turn_page(self, house, promises):
        """Keeps what there is, to be taken back, and puts a house and promises in its place."""
        self._earlier.append((self._house, self._promises))
        self._house = house
        self._promises = promises

    def _change(self, house, promises):
        """Changes the house if it is good as it would be, and all promises hold in it."""
        guide = good_guide(house)
        for index, promise in enumerate(promises):
            fault = promise_fault(guide, promise)
            if fault is not None:
                raise NotKept(index, fault)
        self._turn_page(house, promises)

    def house_now(self):
        """The house."""
        return self._house

    def promises(self):
        """The list of the promises, as they were made."""
        return list(self._promises)

    def add_form(self, spot, form, there, back):
        """Puts a form behind all others, with a road from a form to it; returns its index."""
        forms = self._house[0]
        ask(0, is_index(forms, spot))
        ask(1, is_form(form))
        ask(2, is_turn(forms[spot], form, there))
        ask(3, is_turn(form, forms[spot], back))
        self._change(with_form(self._house, spot, form, there, back), self._promises)
        return len(forms)

    def add_road(self, one, other, there, back):
        """Puts a road between two forms."""
        forms = self._house[0]
        ask(0, is_index(forms, one))
        ask(1, is_index(forms, other) and other > one)
        ask(2, is_turn(forms[one], forms[other], there))
        ask(3, is_turn(forms[other], forms[one], back))
        index = road_between(self._house, one, other)
        if index is not None:
            raise Joined(index)
        self._change(house_with(self._house, (one, other, there, back)), self._promises)

    def put_road(self, index, there, back):
        """Gives a road these two turns instead."""
        forms, roads = self._house
        ask(0, is_index(roads, index))
        one, other = roads[index][:2]
        ask(1, is_turn(forms[one], forms[other], there))
        ask(2, is_turn(forms[other], forms[one], back))
        road = (one, other, there, back)
        self._change((forms, roads[:index] + (road,) + roads[index + 1:]), self._promises)

    def drop_road(self, index):
        """Takes a road out."""
        ask(0, is_index(self._house[1], index))
        self._change(without_roads(self._house, (index,)), self._promises)

    def drop_form(self, spot):
        """Takes a form out, with all its roads."""
        forms = self._house[0]
        ask(0, is_index(forms, spot))
        if len(forms) == 1:
            raise FallsApart(spot)
        house = part_of(self._house, tuple([left for left in range(len(forms)) if left != spot]))
        for index, promise in enumerate(self._promises):
            if promise[1] == spot:
                raise NotKept(index, None)
        self._change(house, tuple([promise_without(promise, spot) for promise in self._promises]))

    def promise(self, thing):
        """Makes a promise, behind all others."""
        ask(0, is_promise(self._house, thing))
        fault = promise_fault(Guide(self._house), thing)
        if fault is not None:
            raise NotKept(len(self._promises), fault)
        self._turn_page(self._house, self._promises + (thing,))

    def withdraw(self, index):
        """Takes a promise out and returns it."""
        ask(0, is_index(self._promises, index))
        promise = self._promises[index]
        self._turn_page(self._house, self._promises[:index] + self._promises[index + 1:])
        return promise

    def undo(self):
        """Takes back the last change, promise or withdrawal that stands."""
        if not self._earlier:
            raise Nothing()
        self._house, self._promises = self._earlier.pop()

    def twin(self):
        """An independent Book in the same state, with what can be taken back."""
        twin = Book(self._house)
        twin._promises = self._promises
        twin._earlier = list(self._earlier)
        return twin
