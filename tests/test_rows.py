"""[55] Rows of steps and deeds."""

import itertools
import unittest

from goods import (FLIP, FORK, LEFT, ONE, PICK, RIGHT, SETTLED_MAPS, TWO, ZERO, any_good_square_house, told_led, turn_for)
from samples import WORD, any_house, any_way, any_worth, chance_of, things
from test_deeds import NEW
from test_faults import ALONE, ROAD
from test_forms import exchanged, listed
from test_returns import CARDS, JUST_HOUSE, MORE_HOUSE
from wherebeen.carrier import Carrier
from wherebeen.deeds import keeps_order
from wherebeen.errors import TooMany
from wherebeen.families import are_free, family_by, is_family
from wherebeen.fields import widened
from wherebeen.forms import is_way
from wherebeen.houses import neighbours
from wherebeen.probes import tests_of
from wherebeen.rows import is_row, moved_ahead, row_led, same_rows
from wherebeen.turns import plain_turn, turned
from wherebeen.ways import gone_of

NEWS, LEFTS, RIGHTS = (NEW,) * 3, (LEFT,) * 3, (RIGHT,) * 3
OLDS = ((("copy", 0), ("copy", 1), ("say", "old")),) * 3
FAMILIES = (NEWS, LEFTS, RIGHTS, OLDS)
ROW = (1, (("go", 0), ("do", 0), ("go", 2), ("do", 1), ("do", 3)))


def told_row_led(house, families, row, worth):
    spot, items = row
    for sort, index in items:
        if sort == "go":
            worth, spot = told_led(house, (spot, index), worth), index
        else:
            worth = turned(families[index][spot], worth)
    return worth


def told_is_row(house, families, thing):
    """Whether a thing is a row, told by the way that it goes."""
    if not (isinstance(thing, tuple) and len(thing) == 2 and isinstance(thing[1], tuple)):
        return False
    if not all(isinstance(item, tuple) and len(item) == 2 and item[0] in ("go", "do") for item in thing[1]):
        return False
    spots = (thing[0],) + tuple(item[1] for item in thing[1] if item[0] == "go")
    done = [item[1] for item in thing[1] if item[0] == "do"]
    return is_way(house, spots) and all(type(index) is int and 0 <= index < len(families) for index in done)


def any_row(chance, house, families, first, most=12):
    items, spot = [], first
    for _ in range(chance.randrange(most)):
        near = neighbours(house, spot)
        if near and chance.random() < 0.6:
            spot = chance.choice(near)
            items.append(("go", spot))
        elif families:
            items.append(("do", chance.randrange(len(families))))
    return (first, tuple(items))


def last_of(row):
    return ([row[0]] + [index for sort, index in row[1] if sort == "go"])[-1]


def any_families(chance):
    """A house, good or not, and families of it: all forms have two more fields, that they change alike."""
    house = widened(widened(any_house(chance, (TWO, WORD), 2, 4, 2), "v", TWO), "w", WORD)
    turns = [lambda at: (("say", chance.randrange(2)), ("copy", at + 1)), lambda at: (("table", ("copy", at), (1, 0)), ("copy", at + 1)),
             lambda at: (("copy", at), ("say", chance.choice("xy"))), lambda at: (("copy", at), ("copy", at + 1))]
    families = []
    for _ in range(chance.randrange(4)):
        state, made = chance.getstate(), chance.choice(turns)
        row = made(0)
        shifted = {form: tuple((part[0], part[1] + len(form) - 2) if part[0] == "copy" else
                               ("table", ("copy", len(form) - 2), part[2]) if part[0] == "table" else part for part in row)
                   for form in house[0]}
        families.append(tuple(plain_turn(form)[:-2] + shifted[form] for form in house[0]))
        assert state != chance.getstate()
    return house, tuple(families)


class IsRow(unittest.TestCase):
    def test_of_no_item_and_of_many(self):
        for row in ((0, ()), (2, ()), ROW, (0, (("do", 3),)), (0, (("go", 1), ("go", 0)) * 40), (1, (("do", 0),) * 90)):
            self.assertIs(is_row(FORK, FAMILIES, row), True)
        self.assertIs(is_row(ALONE, (), (0, ())), True)
        self.assertIs(is_row(ALONE, ((FLIP,),), (0, (("do", 0),))), True)

    def test_steps_without_a_road_and_families_that_are_not_there(self):
        for row in ((1, (("go", 2),)), (0, (("go", 0),)), (0, (("go", 3),)), (0, (("go", -1),)), (0, (("do", 4),)), (0, (("do", -1),)),
                    (1, (("go", 0), ("go", 1), ("go", 2))), (3, ()), (-1, ()), (0, (("go", 1), ("do", 0), ("go", 1)))):
            self.assertIs(is_row(FORK, FAMILIES, row), False)
        self.assertIs(is_row(FORK, (), (0, (("do", 0),))), False)
        self.assertIs(is_row(FORK, (), (0, (("go", 1),))), True)

    def test_any_values(self):
        for thing in things() + [Carrier(FORK), [0, ()], (0,), (0, (), ()), (0, [("do", 0)]), (0, (["do", 0],)), (0, ("do", 0)), (True, ()),
                                 (False, ()), ("0", ()), (None, ()), (0, None), (0, "do"), (0, (("do", True),)), (0, (("go", True),)),
                                 (0, (("do", None),)), (0, (("do",),)), (0, (("do", 0, 0),)), (0, (("has", 0),)), (0, ((0, "do"),)),
                                 (0, (((), 0),)), (0, (([], []),)), (0, {}), (0, (("go", "1"),)), (0, (("go", (1,)),)), (0, (("go", []),))]:
            self.assertIs(is_row(FORK, FAMILIES, thing), False, thing)

    def test_parts_exchanged(self):
        for thing in exchanged(ROW) + [listed(ROW)]:
            self.assertIs(is_row(FORK, FAMILIES, thing), told_is_row(FORK, FAMILIES, thing), thing)

    def test_by_chance(self):
        found = []
        for seed in range(300):
            chance = chance_of(seed)
            house, families = any_families(chance)
            row = any_row(chance, house, families, chance.randrange(len(house[0])))
            self.assertIs(is_row(house, families, row), True)
            items = list(row[1])
            if items:
                at = chance.randrange(len(items))
                items[at] = (chance.choice(("go", "do")), chance.randrange(5))
            thing = (row[0], tuple(items))
            self.assertIs(is_row(house, families, thing), told_is_row(house, families, thing))
            found.append(is_row(house, families, thing))
        self.assertGreater(min(found.count(True), found.count(False)), 50)

    def test_any_number_of_tests(self):
        families = (tuple(plain_turn(form) for form in MORE_HOUSE[0]),)
        row = (0, (("go", 1), ("do", 0), ("go", 2), ("do", 0)))
        self.assertIs(is_row(MORE_HOUSE, families, row), True)
        self.assertIs(is_row(MORE_HOUSE, families, (2, (("go", 0),))), False)
        self.assertEqual(row_led(MORE_HOUSE, families, row, (1,)), ((), (), ()))


class RowLed(unittest.TestCase):
    def test_step_by_step(self):
        self.assertEqual(row_led(FORK, FAMILIES, ROW, (1, 1, "x")), (0, 0, "old"))
        self.assertEqual(row_led(FORK, FAMILIES, (1, ROW[1][:3]), (1, 1, "x")), (0, 0, "new"))
        self.assertEqual(row_led(FORK, FAMILIES, (1, ROW[1][:2]), (1, 1, "x")), (0, 1, "new"))
        self.assertEqual(row_led(FORK, FAMILIES, (1, ()), (1, 1, "~")), (1, 1, "~"))
        self.assertEqual(row_led(ALONE, ((FLIP,),), (0, (("do", 0),) * 3), (0,)), (1,))

    def test_the_turn_of_the_form_where_one_is(self):
        house = ((PICK, PICK), ((0, 1, FLIP, FLIP),))
        families = ((ZERO, ONE),)
        self.assertIs(is_family(house, families[0]), True)
        self.assertEqual(row_led(house, families, (0, (("do", 0), ("go", 1))), (1,)), (1,))
        self.assertEqual(row_led(house, families, (0, (("go", 1), ("do", 0))), (0,)), (1,))
        self.assertEqual(row_led(house, families, (1, (("do", 0), ("go", 0), ("go", 1), ("go", 0))), (0,)), (0,))

    def test_by_chance(self):
        for seed in range(200):
            chance = chance_of(seed)
            house, families = any_families(chance)
            self.assertTrue(all(is_family(house, family) for family in families))
            row = any_row(chance, house, families, chance.randrange(len(house[0])))
            worth = any_worth(chance, house[0][row[0]])
            self.assertEqual(row_led(house, families, row, worth), told_row_led(house, families, row, worth))


class MovedAhead(unittest.TestCase):
    def test_some(self):
        self.assertEqual(moved_ahead(ROW), (1, (("do", 0), ("do", 1), ("do", 3), ("go", 0), ("go", 2))))
        for row in ((0, ()), (2, (("go", 0), ("go", 1))), (1, (("do", 2), ("do", 1))), (0, (("do", 1), ("go", 1)))):
            self.assertEqual(moved_ahead(row), row)

    def test_does_the_same(self):
        for seed in range(150):
            chance = chance_of(seed)
            house, families = any_families(chance)
            row = any_row(chance, house, families, chance.randrange(len(house[0])))
            ahead = moved_ahead(row)
            self.assertIs(is_row(house, families, ahead), True)
            self.assertEqual(sorted(ahead[1]), sorted(row[1]))
            self.assertEqual([item[0] for item in ahead[1]], sorted(item[0] for item in row[1]))
            for sort in ("do", "go"):
                self.assertEqual([item for item in ahead[1] if item[0] == sort], [item for item in row[1] if item[0] == sort])
            self.assertIs(same_rows(house, families, row, ahead), True)
            worth = any_worth(chance, house[0][row[0]])
            self.assertEqual(row_led(house, families, ahead, worth), row_led(house, families, row, worth))
        self.assertEqual(row_led(FORK, FAMILIES, moved_ahead(ROW), (1, 1, "x")), (0, 0, "old"))


class SameRows(unittest.TestCase):
    def test_same_and_not(self):
        def row(*items):
            return (0, items)
        new, left, right, old = (("do", index) for index in range(4))
        there, back = ("go", 1), ("go", 0)
        for one, other, wanted in ((row(new, left), row(left, new), True), (row(new, old), row(old, new), False),
                                   (row(new, old), row(old), True), (row(), row(left), False), (row(left), row(there, back), True),
                                   (row(left, right), row(right, left, right), True), (row(there, new), row(new, there, back, there), True),
                                   (row(), row(), True), (row(there, back), row(("go", 2), back), False), (row(right), row(left), False)):
            self.assertIs(same_rows(FORK, FAMILIES, one, other), wanted)
            self.assertIs(same_rows(FORK, FAMILIES, other, one), wanted)

    def test_words_and_rows(self):
        house = CARDS
        families = (((("say", "x"), ("copy", 1)), (("say", "x"), ("copy", 1))),)
        there = (0, (("go", 1), ("go", 0)))
        self.assertIs(is_family(house, families[0]), True)
        self.assertIs(same_rows(house, families, (0, ()), there), False)
        self.assertIs(same_rows(house, families, (1, ()), (1, (("go", 0), ("go", 1)))), True)
        self.assertIs(same_rows(house, families, (0, (("do", 0),) + there[1]), (0, there[1] + (("do", 0),) * 2)), True)
        self.assertIs(same_rows(house, families, (1, ()), (1, (("do", 0),))), False)

    def test_by_chance(self):
        found = []
        for seed in range(300):
            chance = chance_of(seed)
            house, families = any_families(chance)
            first = chance.randrange(len(house[0]))
            rows = [any_row(chance, house, families, first, 7) for _ in range(6)]
            for one, other in itertools.combinations(rows, 2):
                if last_of(one) == last_of(other):
                    wanted = all(told_row_led(house, families, one, test) == told_row_led(house, families, other, test)
                                 for test in tests_of(house[0][first]))
                    self.assertIs(same_rows(house, families, one, other), wanted)
                    found.append(wanted)
        self.assertGreater(min(found.count(True), found.count(False)), 100)

    def test_of_good_houses(self):
        same = 0
        for seed in range(200):
            chance = chance_of(seed)
            house = any_good_square_house(chance, tree=True)
            deeds = [(0, turn_for(chance.choice(SETTLED_MAPS))) for _ in range(4)]
            families = []
            for deed in deeds:
                if keeps_order(house, deed):
                    try:
                        families.append(family_by(house, deed))
                    except TooMany:
                        pass
            row, other = ((0, tuple(("go", spot) for spot in any_way(chance, house, 0, 8)[1:])) for _ in range(2))
            ways = [(0,) + tuple(item[1] for item in items) for _, items in (row, other)]
            if len(families) < 2 or gone_of(house, ways[0]) != gone_of(house, ways[1]) or ways[0][-1] != ways[1][-1]:
                continue
            self.assertIs(same_rows(house, tuple(families), row, other), True)
            one = (0, row[1] + (("do", 0), ("do", 1)))
            if are_free(house, families[0], families[1]):
                self.assertIs(same_rows(house, tuple(families), one, (0, (("do", 1),) + other[1] + (("do", 0),))), True)
            self.assertIs(same_rows(house, tuple(families), one, (0, (("do", 0),) + other[1] + (("do", 1),))), True)
            same += 1
        self.assertGreater(same, 20)

    def test_500(self):
        families = (tuple(plain_turn(form) for form in MORE_HOUSE[0]),)
        for row in ((0, ()), (2, (("do", 0),))):
            with self.assertRaises(TooMany) as caught:
                same_rows(MORE_HOUSE, families, row, row)
            self.assertEqual(caught.exception.most, 500)
        families = (tuple(plain_turn(form) for form in JUST_HOUSE[0]),)
        self.assertIs(same_rows(JUST_HOUSE, families, (0, (("do", 0),)), (0, ())), True)
        self.assertIs(same_rows(ROAD, (), (0, (("go", 1),)), (0, (("go", 1), ("go", 0), ("go", 1)))), False)


if __name__ == "__main__":
    unittest.main()
