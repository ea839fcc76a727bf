"""[50] One form more."""

import unittest

from goods import (ALL_MAPS, BITS, COPY, FLIP, FORK, LEFT, ONE, PICK, RIGHT, SETTLED_MAPS, SIX_NINE, SQUARE, ZERO, alike_house,
                   all_copied, any_good_square_house, good_house, told_good, told_led, told_simple_ways, told_there_and_back,
                   turn_for)
from samples import WORD, any_form, any_turn, chance_of
from test_charters import done
from test_faults import ALONE, ROAD, TURNING
from test_homes import CHAIN
from test_joining import full_house
from test_probes import JUST, MORE
from test_returns import CARD, CARDS, FULL, JUST_HOUSE, MORE_HOUSE, UNLIKE
from wherebeen.errors import Parted, TooMany
from wherebeen.faults import first_fault, is_good
from wherebeen.forms import is_house
from wherebeen.joining import join_fault, joined
from wherebeen.newforms import clash, form_fault, looking_form, with_form
from wherebeen.parted import parted_ways
from wherebeen.probes import tests_many, tests_of
from wherebeen.shapes import change_places, is_settled
from wherebeen.turns import plain_turn, turned

SAID = tuple(("say", None) if kind[0] == "maybe" else ("say", ()) if kind[0] == "row" else ("say", 0) for _, kind in MORE)


def told_form_fault(house, spot, form, there, back):
    mine = house[0][spot]

    def over(test):
        return turned(back, turned(there, test))

    for test in tests_of(mine):
        if turned(there, over(test)) != turned(there, test):
            return ("road", 0, test)
    for test in tests_of(form):
        if over(turned(back, test)) != turned(back, test):
            return ("road", 1, test)
    for way in told_simple_ways(house, spot):
        for test in tests_of(mine):
            if over(told_led(house, told_there_and_back(way), test)) != told_led(house, told_there_and_back(way), over(test)):
                return ("returns", way, test)
    return None


class WithForm(unittest.TestCase):
    def test_behind_all_others(self):
        found = with_form(FORK, 1, PICK, (("copy", 0),), (("copy", 0), ("say", 1), ("say", "x")))
        self.assertEqual(found, (FORK[0] + (PICK,), FORK[1] + ((1, 3, (("copy", 0),), (("copy", 0), ("say", 1), ("say", "x"))),)))
        found = with_form(FORK, 0, BITS, LEFT, RIGHT)
        self.assertEqual(found, ((BITS,) * 4, FORK[1] + ((0, 3, LEFT, RIGHT),)))
        house = ((PICK,) * 3, ((0, 2, ZERO, ZERO), (1, 2, ONE, ONE)))
        self.assertEqual(with_form(house, 0, PICK, COPY, FLIP)[1], (house[1][0], (0, 3, COPY, FLIP), house[1][1]))
        self.assertEqual(with_form(house, 1, PICK, COPY, FLIP)[1], house[1][:1] + ((1, 2, ONE, ONE), (1, 3, COPY, FLIP)))
        self.assertEqual(with_form(ALONE, 0, PICK, COPY, FLIP), ((PICK, PICK), ((0, 1, COPY, FLIP),)))

    def test_by_chance(self):
        for seed in range(60):
            chance = chance_of(seed)
            house = good_house(chance, spots=5, roads=8)
            spot, form = chance.randrange(len(house[0])), any_form(chance)
            there, back = any_turn(chance, house[0][spot], form, 3), any_turn(chance, form, house[0][spot], 3)
            found = with_form(house, spot, form, there, back)
            self.assertTrue(is_house(found))
            self.assertEqual(found[0], house[0] + (form,))
            self.assertEqual(sorted(found[1], key=lambda road: road[:2]), list(found[1]))
            self.assertEqual([road for road in found[1] if road[1] == len(house[0])], [(spot, len(house[0]), there, back)])
            self.assertEqual(tuple(road for road in found[1] if road[1] < len(house[0])), house[1])

    def test_just_six_forms_and_nine_roads(self):
        for house in (full_house(5, 8), full_house(5, 4), full_house(4, 6)):
            self.assertTrue(is_house(with_form(house, 2, PICK, ZERO, ZERO)))
            self.assertTrue(is_house(looking_form(house, 2, ZERO)))
        for house, most in ((full_house(6, 5), 6), (full_house(6, 9), 6), (full_house(5, 9), 9)):
            for call in (lambda house: with_form(house, 0, PICK, ZERO, ZERO), lambda house: looking_form(house, 0, ZERO)):
                with self.assertRaises(TooMany) as caught:
                    call(house)
                self.assertEqual(caught.exception.most, most)

    def test_any_number_of_tests(self):
        self.assertEqual(len(with_form(MORE_HOUSE, 0, MORE, SAID, ZERO)[0]), 4)
        self.assertEqual(len(looking_form(MORE_HOUSE, 2, plain_turn(MORE))[0]), 4)


class FormFault(unittest.TestCase):
    def test_none(self):
        self.assertIsNone(form_fault(FORK, 0, BITS, LEFT, LEFT))
        self.assertIsNone(form_fault(FORK, 1, BITS, all_copied(BITS), all_copied(BITS)))
        self.assertIsNone(form_fault(FORK, 0, PICK, (("copy", 1),), (("say", 0), ("copy", 0), ("say", ""))))
        self.assertIsNone(form_fault(CARDS, 0, CARD, (("copy", 0), ("first", 1)), (("copy", 0), ("rowof", ("copy", 1)))))
        self.assertIsNone(form_fault(ALONE, 0, PICK, FLIP, FLIP))

    def test_first_side(self):
        self.assertEqual(form_fault(ALONE, 0, PICK, COPY, ZERO), ("road", 0, (1,)))
        self.assertEqual(form_fault(ALONE, 0, PICK, COPY, FLIP), ("road", 0, (0,)))
        # both sides have a fault, and the returns do not change places either
        self.assertEqual(form_fault(CHAIN, 0, PICK, FLIP, COPY), ("road", 0, (0,)))

    def test_other_side(self):
        self.assertEqual(form_fault(ALONE, 0, PICK, ZERO, COPY), ("road", 1, (1,)))
        self.assertEqual(form_fault(ALONE, 0, BITS, (("say", 0), ("say", 0), ("say", "")), (("copy", 1),)), ("road", 1, (0, 1, "~2")))
        # the returns do not change places either
        self.assertEqual(form_fault(CHAIN, 0, PICK, ONE, COPY), ("road", 1, (0,)))

    def test_returns(self):
        self.assertEqual(form_fault(CHAIN, 0, PICK, ONE, ONE), ("returns", (0, 1), (0,)))
        self.assertEqual(form_fault(CHAIN, 1, PICK, ONE, ONE), ("returns", (1, 0), (0,)))
        self.assertEqual(form_fault(CHAIN, 2, PICK, ONE, ONE), ("returns", (2, 1, 0), (0,)))
        self.assertIsNone(form_fault(CHAIN, 2, PICK, ZERO, ZERO))
        ones = (("say", 1), ("copy", 1), ("copy", 2))
        self.assertEqual(form_fault(FORK, 2, BITS, ones, ones), ("returns", (2, 0, 1), (0, 0, "~2")))

    def test_by_chance(self):
        rows = []
        for seed in range(500):
            chance = chance_of(seed)
            house = any_good_square_house(chance, 3)
            spot = chance.randrange(len(house[0]))
            row = chance.choice(SETTLED_MAPS if chance.random() < 0.6 else ALL_MAPS)
            other = row if chance.random() < 0.7 else chance.choice(ALL_MAPS)
            given = (house, spot, SQUARE, turn_for(row), turn_for(other))
            found = form_fault(*given)
            self.assertEqual(found, told_form_fault(*given))
            self.assertIs(found is None, told_good(with_form(*given)))
            rows.append(found and found[:2] if found and found[0] == "road" else found and found[0])
        for sort in (None, ("road", 0), ("road", 1), "returns"):
            self.assertGreater(rows.count(sort), 10, sort)

    def test_other_forms(self):
        rows = []
        for seed in range(300):
            chance = chance_of(seed)
            house = good_house(chance, spots=4, roads=5, fields=2)
            form = (("a", WORD),) if seed % 3 else any_form(chance, most=2)
            spot = chance.randrange(len(house[0]))
            if max(map(tests_many, house[0] + (form,))) <= 60:
                given = (house, spot, form, any_turn(chance, house[0][spot], form, 2), any_turn(chance, form, house[0][spot], 2))
                found = form_fault(*given)
                self.assertEqual(found, told_form_fault(*given))
                self.assertIs(found is None, first_fault(with_form(*given)) is None)
                rows.append(found is None)
        self.assertGreater(min(rows.count(True), rows.count(False)), 20)

    def test_six_forms_and_nine_roads(self):
        house = alike_house(BITS, SIX_NINE, [LEFT, RIGHT, all_copied(BITS)] * 3)
        self.assertIsNone(form_fault(house, 5, BITS, LEFT, LEFT))
        ones = (("say", 1), ("copy", 1), ("copy", 2))
        self.assertEqual(form_fault(house, 1, BITS, ones, ones), ("returns", (1, 3), (0, 0, "~2")))
        self.assertEqual(form_fault(house, 1, BITS, all_copied(BITS), ones), ("road", 0, (0, 0, "~2")))

    def test_few_then_parted(self):
        with self.assertRaises(TooMany) as caught:
            form_fault(MORE_HOUSE, 0, PICK, ZERO, ZERO)
        self.assertEqual(caught.exception.most, 500)
        # the tests of the new form count too
        for house, back in ((ALONE, ZERO), (ROAD, ZERO), (FORK, (("say", 0), ("say", 0), ("say", "")))):
            with self.assertRaises(TooMany) as caught:
                form_fault(house, 0, MORE, SAID, back)
            self.assertEqual(caught.exception.most, 500)
        for house in (ROAD, UNLIKE, TURNING):
            for turn in (ZERO, FLIP):
                with self.assertRaises(Parted) as caught:
                    form_fault(house, 0, PICK, COPY, turn)
                self.assertEqual((caught.exception.worth, caught.exception.way, caught.exception.other), parted_ways(house))
        said = tuple(("say", None) if kind[0] == "maybe" else ("say", 0 if kind[0] == "pick" else "") for _, kind in JUST)
        self.assertIsNone(form_fault(ALONE, 0, JUST, said, ZERO))
        self.assertIsNone(form_fault(JUST_HOUSE, 0, PICK, COPY, COPY))


class LookingForm(unittest.TestCase):
    def test_equal_form_and_one_turn(self):
        self.assertEqual(looking_form(FORK, 1, RIGHT), ((BITS,) * 4, FORK[1] + ((1, 3, RIGHT, RIGHT),)))
        self.assertEqual(looking_form(CARDS, 0, plain_turn(FULL))[0], (FULL, CARD, FULL))
        self.assertEqual(looking_form(ALONE, 0, FLIP), ((PICK, PICK), ((0, 1, FLIP, FLIP),)))

    def test_good_exactly_if(self):
        rows = []
        for seed in range(300):
            chance = chance_of(seed)
            house = any_good_square_house(chance, 3)
            spot, row = chance.randrange(len(house[0])), chance.choice(ALL_MAPS if seed % 2 else SETTLED_MAPS)
            twice = done(row, row)
            returns = [tuple(tests_of(SQUARE).index(told_led(house, told_there_and_back(way), test)) for test in tests_of(SQUARE))
                       for way in told_simple_ways(house, spot)]
            wanted = done(twice, row) == row and all(done(twice, other) == done(other, twice) for other in returns)
            self.assertIs(is_good(looking_form(house, spot, turn_for(row))), wanted)
            rows.append(wanted)
        self.assertGreater(min(rows.count(True), rows.count(False)), 50)


class Clash(unittest.TestCase):
    def test_none(self):
        self.assertIsNone(clash(BITS, LEFT, RIGHT))
        self.assertIsNone(clash(PICK, ZERO, ZERO))
        self.assertIsNone(clash(FULL, (("copy", 0), ("rowof", ("first", 1))), (("say", "x"), ("copy", 1))))

    def check(self, form, one, other):
        found = clash(form, one, other)
        self.assertEqual(len(found), 2)
        for house in found:
            self.assertTrue(is_house(house))
            self.assertEqual([house[0], len(house[1])], [(form, form), 1])
            self.assertIs(is_good(house), True)
        self.assertIs(is_good(joined(found[0], 0, found[1], 0)), False)
        self.assertIsNotNone(join_fault(found[0], 0, found[1], 0))

    def test_two_good_houses_that_cannot_be_joined(self):
        self.check(PICK, ZERO, ONE)
        self.check(SQUARE, (("say", 0), ("copy", 1)), (("copy", 1), ("copy", 1)))
        # only the second word of a row, and words that are unlike, tell these apart
        self.check(FULL, (("else", ("first", 1), ("copy", 0)), ("copy", 1)), (("copy", 0), ("say", ())))
        pair = (("v", WORD), ("w", WORD))
        self.check(pair, (("copy", 0), ("copy", 0)), (("copy", 1), ("copy", 1)))

    def test_by_chance(self):
        rows = []
        for seed in range(150):
            chance = chance_of(seed)
            one, other = chance.sample(SETTLED_MAPS, 2)
            if done(one, other) == done(other, one):
                self.assertIsNone(clash(SQUARE, turn_for(one), turn_for(other)))
            else:
                self.check(SQUARE, turn_for(one), turn_for(other))
            rows.append(done(one, other) == done(other, one))
        self.assertGreater(min(rows.count(True), rows.count(False)), 20)

    def test_other_forms(self):
        checked = 0
        for seed in range(300):
            chance = chance_of(seed)
            form = any_form(chance, most=2)
            one, other = (any_turn(chance, form, form, 2) for _ in range(2))
            if tests_many(form) <= 60 and is_settled(form, one) and is_settled(form, other):
                if change_places(form, one, other):
                    self.assertIsNone(clash(form, one, other))
                else:
                    self.check(form, one, other)
                    checked += 1
        self.assertGreater(checked, 20)

    def test_500(self):
        for one, other in ((plain_turn(MORE), plain_turn(MORE)), (plain_turn(MORE), SAID)):
            with self.assertRaises(TooMany) as caught:
                clash(MORE, one, other)
            self.assertEqual(caught.exception.most, 500)
        self.assertIsNone(clash(JUST, plain_turn(JUST), plain_turn(JUST)))


if __name__ == "__main__":
    unittest.main()
