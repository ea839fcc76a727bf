"""[53] Deeds; [9] which of them can be done anywhere."""

import unittest

from goods import (ALL_MAPS, BITS, COPY, FLIP, FORK, LEFT, ONE, PICK, RIGHT, SETTLED_MAPS, SIX_NINE, ZERO, alike_house,
                   all_copied, any_good_square_house, told_led, told_simple_ways, told_there_and_back, turn_for)
from samples import any_turn, chance_of, things
from test_faults import ALONE, ROAD
from test_forms import exchanged, listed
from test_homes import CHAIN, any_good_houses, assert_guarded
from test_probes import MORE
from test_returns import CARDS, FULL, JUST_HOUSE, MORE_HOUSE
from test_turns import chain
from wherebeen.deeds import deed_by, is_deed, keeps_order, unlike_deed
from wherebeen.errors import TooMany
from wherebeen.forms import is_turn
from wherebeen.newforms import with_form
from wherebeen.probes import same_turns, tests_of
from wherebeen.turns import plain_turn, turn_parts, turned
from wherebeen.ways import turn_of

SWAP = (("copy", 1), ("copy", 0), ("copy", 2))
NEW = (("copy", 0), ("copy", 1), ("say", "new"))


def told_unlike(house, deed):
    spot, turn = deed
    for way in told_simple_ways(house, spot):
        back = told_there_and_back(way)
        for test in tests_of(house[0][spot]):
            if told_led(house, back, turned(turn, test)) != turned(turn, told_led(house, back, test)):
                return (way, test)
    return None


class IsDeed(unittest.TestCase):
    def test_deeds(self):
        for deed in ((0, SWAP), (2, NEW), (1, LEFT)):
            self.assertIs(is_deed(FORK, deed), True)
        self.assertIs(is_deed(CARDS, (0, (("copy", 0), ("rowof", ("first", 1))))), True)
        # houses that are not good, and forms with more than 500 tests, have deeds as well
        self.assertIs(is_deed(ROAD, (1, FLIP)), True)
        self.assertIs(is_deed(MORE_HOUSE, (2, plain_turn(MORE))), True)
        self.assertIs(is_deed(MORE_HOUSE, (2, ZERO)), False)

    def test_turns_of_another_form(self):
        self.assertIs(is_deed(CARDS, (0, (("copy", 0), ("first", 1)))), False)
        self.assertIs(is_deed(CARDS, (1, (("copy", 0), ("rowof", ("copy", 1))))), False)
        self.assertIs(is_deed(CARDS, (1, plain_turn(FULL))), True)
        self.assertIs(is_deed(FORK, (0, ZERO)), False)

    def test_any_values(self):
        for thing in things() + [[0, SWAP], (0,), (0, SWAP, 0), (3, SWAP), (-1, SWAP), (True, SWAP), (False, SWAP), ("0", SWAP),
                                 (None, SWAP), (0, list(SWAP)), (0, SWAP[:2]), (0, SWAP + SWAP[:1]), (0, None), (0, ()), (0, (0,)),
                                 (0, (("say", True),) + SWAP[1:]), (0, (("copy", True),) + SWAP[1:]), {0: SWAP}, "01", SWAP,
                                 ((0, SWAP),), (0, (("say", 0), ("say", 0), ("say", "~"))), (10 ** 39, SWAP)]:
            self.assertIs(is_deed(FORK, thing), False, thing)

    def test_parts_exchanged(self):
        for thing in exchanged((1, SWAP)) + [listed((1, SWAP))]:
            told = isinstance(thing, tuple) and len(thing) == 2 and thing[0] == 1 and thing[0] is not True and is_turn(BITS, BITS, thing[1])
            self.assertIs(is_deed(FORK, thing), told, thing)


class KeepsOrder(unittest.TestCase):
    def check(self, house, deed, wanted):
        self.assertEqual(unlike_deed(house, deed), wanted)
        self.assertIs(keeps_order(house, deed), wanted is None)

    def test_that_keep_order(self):
        for spot in range(3):
            for turn in (NEW, LEFT, RIGHT, all_copied(BITS), (("say", 0), ("say", 0), ("say", "x"))):
                self.check(FORK, (spot, turn), None)
        self.check(ALONE, (0, FLIP), None)
        self.check(CARDS, (0, (("say", "x"), ("copy", 1))), None)
        self.check(CARDS, (1, (("else", ("copy", 1), ("copy", 0)), ("say", None))), None)
        self.check(((PICK, PICK), ((0, 1, FLIP, FLIP),)), (1, ONE), None)

    def test_least_way_and_first_test(self):
        self.check(FORK, (0, SWAP), ((0, 1), (0, 1, "~2")))
        self.check(FORK, (1, SWAP), ((1, 0), (0, 1, "~2")))
        self.check(FORK, (0, (("copy", 0), ("say", 1), ("copy", 2))), ((0, 2), (0, 0, "~2")))
        self.check(FORK, (1, (("copy", 0), ("say", 1), ("copy", 2))), ((1, 0, 2), (0, 0, "~2")))
        self.check(CHAIN, (0, FLIP), ((0, 1), (0,)))
        self.check(CHAIN, (2, ONE), ((2, 1, 0), (0,)))
        self.check(CARDS, (0, (("copy", 0), ("say", ("a", "b")))), ((0, 1), ("~0", ())))
        self.check(CARDS, (0, (("else", ("first", 1), ("copy", 0)), ("say", ()))), None)

    def test_by_chance(self):
        kept = []
        for seed in range(300):
            chance = chance_of(seed)
            house = any_good_square_house(chance)
            spot = chance.randrange(len(house[0]))
            deed = (spot, turn_for(chance.choice(ALL_MAPS if seed % 3 else SETTLED_MAPS)))
            self.check(house, deed, told_unlike(house, deed))
            kept.append(keeps_order(house, deed))
        self.assertGreater(min(kept.count(True), kept.count(False)), 60)

    def test_other_forms(self):
        kept = []
        for chance, house in any_good_houses(0, 60, fields=3, roads=6):
            spot = chance.randrange(len(house[0]))
            if len(tests_of(house[0][spot])) <= 60:
                deed = (spot, any_turn(chance, house[0][spot], house[0][spot], 2))
                self.check(house, deed, told_unlike(house, deed))
                kept.append(keeps_order(house, deed))
        self.assertGreater(min(kept.count(True), kept.count(False)), 10)

    def test_nine_roads(self):
        house = alike_house(BITS, SIX_NINE, [LEFT, RIGHT, all_copied(BITS)] * 3)
        self.check(house, (3, NEW), None)
        self.check(house, (3, SWAP), told_unlike(house, (3, SWAP)))

    def test_errors(self):
        assert_guarded(self, (lambda house: unlike_deed(house, (0, ZERO)), lambda house: keeps_order(house, (0, FLIP)),
                              lambda house: deed_by(house, (0, FLIP), (0,)), lambda house: deed_by(house, (1, ZERO), (0, 1))))
        self.check(JUST_HOUSE, (0, ZERO), None)
        with self.assertRaises(TooMany) as caught:
            deed_by(MORE_HOUSE, (0, (chain(201),)), (1, 0))
        self.assertEqual(caught.exception.most, 500)


class DeedBy(unittest.TestCase):
    def check(self, house, deed, way):
        found = deed_by(house, deed, way)
        self.assertIs(is_deed(house, found), True)
        self.assertEqual(found[0], way[0])
        for test in tests_of(house[0][way[0]]):
            wanted = told_led(house, way[::-1], turned(deed[1], told_led(house, way, test)))
            self.assertEqual(turned(found[1], test), wanted)
        return found

    def test_way_of_one_item(self):
        for turn in (SWAP, NEW, LEFT):
            self.assertEqual(deed_by(FORK, (1, turn), (1,)), (1, turn))
            self.check(FORK, (1, turn), (1,))
        self.assertEqual(deed_by(ALONE, (0, FLIP), (0,)), (0, FLIP))

    def test_longer_ways(self):
        self.assertEqual(self.check(FORK, (0, NEW), (1, 0)), (1, (("say", 0), ("copy", 1), ("say", "new"))))
        found = self.check(FORK, (2, SWAP), (1, 0, 2))
        self.assertTrue(same_turns(BITS, found[1], (("say", 0), ("say", 0), ("copy", 2))))
        self.check(CARDS, (1, (("else", ("copy", 1), ("copy", 0)), ("say", None))), (0, 1))
        self.check(CARDS, (0, (("say", "x"), ("say", ("a", "b")))), (1, 0))

    def test_forms_with_more_fields_and_with_less(self):
        there, back = (("copy", 1),), (("say", 0), ("copy", 0), ("say", "x"))
        house = ((BITS, PICK), ((0, 1, there, back),))
        self.assertEqual(self.check(house, (1, FLIP), (0, 1)), (0, (("say", 0), ("table", ("copy", 1), (1, 0)), ("say", "x"))))
        self.assertEqual(self.check(house, (0, LEFT), (1, 0)), (1, COPY))
        self.assertEqual(self.check(house, (1, FLIP), (1,)), (1, FLIP))
        self.assertEqual(self.check(house, (0, SWAP), (1, 0)), (1, ZERO))

    def test_keeps_order_if_the_deed_does(self):
        kept = 0
        for seed in range(400):
            chance = chance_of(seed)
            house = any_good_square_house(chance)
            way = chance.choice([(0,)] + told_simple_ways(house))
            deed = (way[-1], turn_for(chance.choice(ALL_MAPS if seed % 2 else SETTLED_MAPS)))
            try:
                found = self.check(house, deed, way)
            except TooMany:
                continue
            if keeps_order(house, deed):
                self.assertIs(keeps_order(house, found), True)
                kept += len(way) > 1
        self.assertGreater(kept, 20)

    def test_just_200(self):
        def house(there, back):
            return ((PICK, PICK), ((0, 1, (chain(there),), (chain(back),)),))
        # two chains of so many parts put one behind the other have one part less together
        for there, back, many in ((1, 1, 200), (101, 51, 50), (51, 101, 50), (99, 3, 100), (3, 197, 2), (197, 3, 2), (1, 199, 2)):
            for way in ((0, 1), (1, 0)):
                found = self.check(house(there, back), (way[-1], (chain(many),)), way)
                self.assertEqual(turn_parts(found[1]), there + many + back - 2)
        for there, back, many in ((1, 1, 201), (101, 51, 51), (53, 101, 50), (99, 3, 101), (3, 199, 1), (201, 1, 1), (1, 201, 1)):
            for way in ((0, 1), (1, 0)):
                with self.assertRaises(TooMany) as caught:
                    deed_by(house(there, back), (way[-1], (chain(many),)), way)
                self.assertEqual(caught.exception.most, 200)
        with self.assertRaises(TooMany):
            deed_by(ALONE, (0, (chain(201),)), (0,))
        self.assertEqual(deed_by(ALONE, (0, (chain(200),)), (0,)), (0, (chain(200),)))

    def test_just_where_turn_of_raises_it(self):
        # the deed as a road to a form more, and the plain way back, make a way that does the same
        raised = []
        for seed in range(200):
            chance = chance_of(seed)
            many = chance.randint(2, 4)
            house = alike_house(PICK, [(spot - 1, spot) for spot in range(1, many)], [
                chance.choice((COPY, ZERO) + ((chain(chance.choice((41, 51, 61))),),) * 6) for _ in range(many)], many)
            turn = (chain(chance.choice((20, 60, 61))),) if seed % 5 else ZERO
            way = tuple(range(many)) if seed % 2 else tuple(range(many))[::-1]
            longer = with_form(house, way[-1], PICK, turn, COPY)
            try:
                wanted = (way[0], turn_of(longer, way + (many,) + way[::-1]))
            except TooMany:
                with self.assertRaises(TooMany) as caught:
                    deed_by(house, (way[-1], turn), way)
                self.assertEqual(caught.exception.most, 200)
                raised.append(True)
                continue
            self.assertEqual(deed_by(house, (way[-1], turn), way), wanted)
            raised.append(False)
        self.assertGreater(min(raised.count(True), raised.count(False)), 30)

    def test_too_many_on_the_way_alone(self):
        # at the end there is one part, but on the way there are more than 200
        house = ((PICK,) * 3, ((0, 1, ZERO, ZERO), (1, 2, (chain(101),), (chain(101),))))
        with self.assertRaises(TooMany):
            deed_by(house, (2, COPY), (1, 2))
        self.assertEqual(deed_by(house, (2, ZERO), (1, 2))[0], 1)
        with self.assertRaises(TooMany):
            deed_by(house, (2, (chain(101),)), (1, 2))


if __name__ == "__main__":
    unittest.main()
