"""[49] Charters."""

import itertools
import unittest

from goods import (ALL_MAPS, BITS, COPY, FLIP, FORK, LEFT, ONE, PICK, RIGHT, SETTLED_MAPS, SQUARE, TWO, ZERO, all_copied,
                   any_good_square_house, any_square_house, told_led, told_simple_ways, told_there_and_back, turn_for, CORNERS)
from samples import WORD, any_turn, chance_of, things
from test_faults import ALONE, ROAD, TURNING
from test_forms import exchanged, listed
from test_probes import JUST, MORE
from test_returns import CARDS, FULL, MORE_HOUSE, UNLIKE
from test_turns import chain
from wherebeen.charters import breaking_way, greatest_charters, is_charter, lot_of
from wherebeen.errors import TooMany
from wherebeen.faults import is_good
from wherebeen.forms import is_turn
from wherebeen.joining import join_fault
from wherebeen.shapes import change_places, is_settled
from wherebeen.turns import plain_turn

BLANK = (("copy", 0), ("copy", 1), ("say", ""))
FIRST = (("copy", 0), ("rowof", ("first", 1)))
NAMELESS = (("say", "x"), ("copy", 1))


def done(one, other):
    """The map that does one map and then another."""
    return tuple(other[item] for item in one)


def told_charter(rows):
    return len(rows) <= 8 and told_friends(rows)


def told_friends(rows):
    settled = all(done(row, row) == row for row in rows)
    return settled and all(done(one, other) == done(other, one) for one in rows for other in rows)


def told_lot(rows, turn):
    """The lot of a map by a charter of maps, found by trying all lots of the charter."""
    for size in range(len(rows) + 1):
        for lot in itertools.combinations(rows, size):
            whole = tuple(range(4))
            for row in lot:
                whole = done(whole, row)
            if whole == turn:
                return tuple(at for at, row in enumerate(rows) if done(turn, row) == turn)
    return None


def told_map(house, way):
    return tuple(CORNERS.index(told_led(house, told_there_and_back(way), corner)) for corner in CORNERS)


def any_charter(chance, most=4):
    rows = []
    for row in chance.sample(SETTLED_MAPS, len(SETTLED_MAPS)):
        if told_friends(rows + [row]) and len(rows) < most:
            rows.append(row)
    return rows


class IsCharter(unittest.TestCase):
    def test_of_no_turn_one_and_more(self):
        for charter in ((), (LEFT,), (LEFT, RIGHT), (BLANK, LEFT, RIGHT), (all_copied(BITS), LEFT, LEFT)):
            self.assertIs(is_charter(BITS, charter), True)
        self.assertIs(is_charter(FULL, (FIRST, NAMELESS)), True)
        self.assertIs(is_charter(PICK, (ONE,)), True)

    def test_just_eight_and_nine(self):
        self.assertEqual([is_charter(PICK, (ZERO,) * many) for many in (7, 8, 9, 10)], [True, True, False, False])
        turns = tuple((("copy", 0), ("copy", 1), ("say", ""))[:at] + (("say", value),) + all_copied(BITS)[at + 1:]
                      for at, value in ((0, 0), (1, 1), (2, "x")))
        self.assertIs(is_charter(BITS, turns * 2 + turns[:2]), True)
        self.assertIs(is_charter(BITS, turns * 3), False)

    def test_not_settled(self):
        self.assertIs(is_charter(PICK, (FLIP,)), False)
        self.assertIs(is_charter(PICK, (COPY, FLIP)), False)
        self.assertIs(is_charter(SQUARE, (turn_for((0, 0, 1, 3)),)), False)
        # only a second word in a row shows that this is not settled
        self.assertIs(is_charter(FULL, ((("else", ("first", 1), ("copy", 0)), ("say", ())),)), True)
        self.assertIs(is_charter(FULL, ((("copy", 0), ("one", ("else", ("first", 1), ("copy", 0)))),)), True)
        self.assertIs(is_charter(FULL, ((("else", ("first", 1), ("copy", 0)), ("one", ("copy", 0))),)), False)

    def test_not_changing_places(self):
        self.assertIs(is_charter(PICK, (ZERO, ONE)), False)
        self.assertIs(is_charter(PICK, (ZERO, COPY, ZERO)), True)
        self.assertIs(is_charter(BITS, (LEFT, RIGHT, (("say", 1), ("copy", 1), ("copy", 2)))), False)
        # only words that are alike in the two fields would hide that these do not change places
        pair = (("v", WORD), ("w", WORD))
        self.assertIs(is_charter(pair, ((("copy", 0), ("copy", 0)), (("copy", 1), ("copy", 1)))), False)

    def test_any_values(self):
        for thing in things() + [list((LEFT,)), {0: LEFT}, (list(LEFT),), (LEFT, None), LEFT, (LEFT[:2],), ((),), (ZERO,), "ab"]:
            self.assertIs(is_charter(BITS, thing), thing == (), thing)
        self.assertIs(is_charter(BITS, [LEFT]), False)
        self.assertIs(is_charter(SQUARE, ((("say", True), ("copy", 1)),)), False)
        self.assertIs(is_charter(SQUARE, ((("copy", False), ("copy", 1)),)), False)

    def test_parts_exchanged(self):
        charter = (LEFT, RIGHT)
        right = 0
        for thing in exchanged(charter) + [listed(charter), (LEFT,), (LEFT, RIGHT, LEFT)]:
            wanted = isinstance(thing, tuple) and all(is_turn(BITS, BITS, turn) for turn in thing)
            wanted = wanted and all(is_settled(BITS, turn) for turn in thing)
            wanted = wanted and all(change_places(BITS, one, other) for one in thing for other in thing)
            self.assertIs(is_charter(BITS, thing), wanted, thing)
            right += wanted
        self.assertEqual(right, 2)

    def test_all_pairs_of_maps(self):
        chance = chance_of(1)
        found = []
        for _ in range(300):
            rows = any_charter(chance, 2) if chance.random() < 0.5 else chance.sample(ALL_MAPS, 2)
            rows = rows + [chance.choice(SETTLED_MAPS)] * chance.randrange(2)
            self.assertIs(is_charter(SQUARE, tuple(map(turn_for, rows))), told_charter(rows))
            found.append(told_charter(rows))
        self.assertGreater(min(found.count(True), found.count(False)), 60)

    def test_500(self):
        for thing in ((), (plain_turn(MORE),), None, [], (1,)):
            with self.assertRaises(TooMany) as caught:
                is_charter(MORE, thing)
            self.assertEqual(caught.exception.most, 500)
        self.assertIs(is_charter(JUST, (plain_turn(JUST),)), True)


class LotOf(unittest.TestCase):
    def test_of_the_charter(self):
        both = (("say", 0), ("say", 0), ("copy", 2))
        self.assertEqual(lot_of(BITS, (LEFT, RIGHT), both), (0, 1))
        self.assertEqual(lot_of(BITS, (LEFT, RIGHT), LEFT), (0,))
        self.assertEqual(lot_of(BITS, (LEFT, RIGHT), all_copied(BITS)), ())
        self.assertEqual(lot_of(BITS, (), all_copied(BITS)), ())
        self.assertEqual(lot_of(BITS, (RIGHT, BLANK, RIGHT), RIGHT), (0, 2))
        # all turns of the charter that change nothing, not only those that it takes
        self.assertEqual(lot_of(BITS, (LEFT, all_copied(BITS), both, RIGHT), both), (0, 1, 2, 3))
        self.assertEqual(lot_of(BITS, (LEFT, all_copied(BITS), both, RIGHT), LEFT), (0, 1))
        self.assertEqual(lot_of(BITS, (both, all_copied(BITS)), plain_turn(BITS)), (1,))

    def test_not_of_the_charter(self):
        for charter, turn in (((), LEFT), ((LEFT,), RIGHT), ((LEFT, RIGHT), BLANK), ((LEFT, RIGHT), (("copy", 1), ("copy", 0), ("copy", 2))),
                              (((("say", 0), ("say", 0), ("copy", 2)),), LEFT), ((LEFT,), (("say", 1), ("copy", 1), ("copy", 2)))):
            self.assertIsNone(lot_of(BITS, charter, turn))
        self.assertIsNone(lot_of(PICK, (ZERO,), FLIP))
        self.assertIsNone(lot_of(PICK, (ZERO,), ONE))
        self.assertIsNone(lot_of(PICK, (COPY,), FLIP))

    def test_words(self):
        self.assertEqual(lot_of(FULL, (FIRST, NAMELESS), (("say", "x"), ("rowof", ("first", 1)))), (0, 1))
        self.assertIsNone(lot_of(FULL, (FIRST, NAMELESS), (("say", "y"), ("rowof", ("first", 1)))))
        self.assertIsNone(lot_of(FULL, (FIRST, NAMELESS), (("say", "x"), ("say", ()))))

    def test_all_maps(self):
        chance = chance_of(2)
        found = []
        for _ in range(250):
            rows = any_charter(chance, chance.randrange(5))
            turn = chance.choice(ALL_MAPS)
            if chance.random() < 0.6:
                turn = tuple(range(4))
                for row in chance.sample(rows, chance.randint(0, len(rows))):
                    turn = done(turn, row)
            wanted = told_lot(rows, turn)
            self.assertEqual(lot_of(SQUARE, tuple(map(turn_for, rows)), turn_for(turn)), wanted)
            found.append(wanted is None)
        self.assertGreater(min(found.count(True), found.count(False)), 60)

    def test_500(self):
        for charter in ((), (plain_turn(MORE),)):
            with self.assertRaises(TooMany) as caught:
                lot_of(MORE, charter, plain_turn(MORE))
            self.assertEqual(caught.exception.most, 500)
        self.assertEqual(lot_of(JUST, (plain_turn(JUST),), plain_turn(JUST)), (0,))


class BreakingWay(unittest.TestCase):
    def test_kept_and_broken(self):
        both = (("say", 0), ("say", 0), ("copy", 2))
        self.assertIsNone(breaking_way(FORK, 0, (LEFT, RIGHT)))
        self.assertEqual(breaking_way(FORK, 0, (LEFT,)), (0, 2))
        self.assertEqual(breaking_way(FORK, 0, (RIGHT,)), (0, 1))
        self.assertEqual(breaking_way(FORK, 0, ()), (0, 1))
        self.assertIsNone(breaking_way(FORK, 1, (LEFT, both)))
        self.assertEqual(breaking_way(FORK, 1, (LEFT,)), (1, 0, 2))
        self.assertIsNone(breaking_way(CARDS, 0, (NAMELESS, FIRST)))
        self.assertIsNone(breaking_way(CARDS, 1, ()))
        self.assertEqual(breaking_way(CARDS, 0, (NAMELESS,)), (0, 1))

    def test_no_road(self):
        self.assertIsNone(breaking_way(ALONE, 0, ()))
        self.assertIsNone(breaking_way(ALONE, 0, (ZERO,)))

    def test_bad_houses(self):
        self.assertIsNone(breaking_way(ROAD, 0, (ZERO,)))
        self.assertEqual(breaking_way(ROAD, 1, (ONE,)), (1, 0))
        self.assertEqual(breaking_way(UNLIKE, 0, (ZERO,)), (0, 2))
        self.assertEqual(breaking_way(UNLIKE, 0, (ONE,)), (0, 1))
        self.assertIsNone(breaking_way(TURNING, 0, ()))
        # the return is not settled, so that it is of no charter
        turning = ((PICK, PICK), ((0, 1, COPY, FLIP),))
        for charter in ((), (ZERO,), (COPY,), (ONE,)):
            self.assertEqual(breaking_way(turning, 0, charter), (0, 1))

    def test_by_chance(self):
        found = []
        for seed in range(200):
            chance = chance_of(seed)
            house = any_square_house(chance) if seed % 2 else any_good_square_house(chance)
            spot = chance.randrange(len(house[0]))
            ways = told_simple_ways(house, spot)
            rows = any_charter(chance, chance.randrange(5))
            if ways and chance.random() < 0.5:
                rows = [told_map(house, way) for way in ways[:-1]][:8]
                rows = rows if told_charter(rows) else []
            wanted = [way for way in ways if told_lot(rows, told_map(house, way)) is None]
            self.assertEqual(breaking_way(house, spot, tuple(map(turn_for, rows))), wanted[0] if wanted else None)
            found.append(bool(wanted))
        self.assertGreater(min(found.count(True), found.count(False)), 40)

    def test_houses_that_keep_one_charter_can_be_joined(self):
        joined = 0
        for seed in range(200):
            chance = chance_of(seed)
            one, other = (any_good_square_house(chance, 3) for _ in range(2))
            rows = [told_map(one, way) for way in told_simple_ways(one, 0)]
            self.assertTrue(told_friends(rows))
            if len(rows) <= 8:
                self.assertIsNone(breaking_way(one, 0, tuple(map(turn_for, rows))))
                if breaking_way(other, 0, tuple(map(turn_for, rows))) is None:
                    self.assertIsNone(join_fault(one, 0, other, 0))
                    joined += 1
        self.assertGreater(joined, 30)

    def test_500_of_this_form_alone(self):
        with self.assertRaises(TooMany) as caught:
            breaking_way(MORE_HOUSE, 2, ())
        self.assertEqual(caught.exception.most, 500)
        self.assertEqual(breaking_way(MORE_HOUSE, 0, ()), (0, 1, 2))
        self.assertIsNone(breaking_way(MORE_HOUSE, 0, (ZERO,)))
        self.assertEqual(breaking_way(MORE_HOUSE, 1, ()), (1, 2))
        with self.assertRaises(TooMany):
            breaking_way(((MORE,), ()), 0, ())


class GreatestCharters(unittest.TestCase):
    def test_some(self):
        swap, led = (("copy", 1), ("copy", 0)), (("copy", 1), ("copy", 1))
        a, b = (("say", 0), ("copy", 1)), (("copy", 0), ("say", 0))
        self.assertEqual(greatest_charters(SQUARE, (a, b, swap, led)), [(0, 1), (3,)])
        self.assertEqual(greatest_charters(SQUARE, (swap, a, led, b)), [(1, 3), (2,)])
        self.assertEqual(greatest_charters(SQUARE, (plain_turn(SQUARE), a, led)), [(0, 1), (0, 2)])
        self.assertEqual(greatest_charters(FULL, (FIRST, NAMELESS, (("say", "y"), ("copy", 1)))), [(0, 1), (0, 2)])

    def test_none_settled(self):
        self.assertEqual(greatest_charters(PICK, ()), [()])
        self.assertEqual(greatest_charters(PICK, (FLIP,)), [()])
        self.assertEqual(greatest_charters(PICK, (FLIP,) * 12), [()])

    def test_equal_turns_and_more_than_eight(self):
        self.assertEqual(greatest_charters(PICK, (ZERO,) * 9), [tuple(range(9))])
        self.assertEqual(greatest_charters(PICK, (COPY,) * 12), [tuple(range(12))])
        self.assertEqual(greatest_charters(PICK, (ZERO, ONE) * 6), [(0, 2, 4, 6, 8, 10), (1, 3, 5, 7, 9, 11)])
        self.assertEqual(greatest_charters(PICK, (ZERO, ONE, FLIP, COPY) * 3), [(0, 3, 4, 7, 8, 11), (1, 3, 5, 7, 9, 11)])

    def test_by_chance(self):
        several = 0
        for seed in range(120):
            chance = chance_of(seed)
            rows = [chance.choice(SETTLED_MAPS if chance.random() < 0.8 else ALL_MAPS) for _ in range(chance.randint(0, 7))]
            lots = [set(lot) for size in range(len(rows) + 1) for lot in itertools.combinations(range(len(rows)), size)
                    if told_friends([rows[at] for at in lot])]
            wanted = sorted(tuple(sorted(lot)) for lot in lots if not any(lot < other for other in lots))
            self.assertEqual(greatest_charters(SQUARE, tuple(map(turn_for, rows))), wanted)
            several += len(wanted) > 1
        self.assertGreater(several, 50)

    def test_other_forms(self):
        for seed in range(60):
            chance = chance_of(seed)
            form = (("a", TWO), ("m", ("maybe", WORD)))
            turns = tuple(any_turn(chance, form, form, 2) for _ in range(5))
            settled = [at for at, turn in enumerate(turns) if is_charter(form, (turn,))]
            found = greatest_charters(form, turns)
            self.assertEqual(sorted({at for lot in found for at in lot}), settled)
            for lot in found:
                self.assertIs(is_charter(form, tuple(turns[at] for at in lot)), True)
                for at in set(settled) - set(lot):
                    self.assertIs(is_charter(form, tuple(turns[near] for near in lot) + (turns[at],)), False)

    def test_twelve_and_thirteen(self):
        self.assertEqual(len(greatest_charters(PICK, (ZERO,) * 12)[0]), 12)
        for many in (13, 20):
            with self.assertRaises(TooMany) as caught:
                greatest_charters(PICK, (ZERO,) * many)
            self.assertEqual(caught.exception.most, 12)
            with self.assertRaises(TooMany) as caught:
                greatest_charters(MORE, (plain_turn(MORE),) * many)
            self.assertEqual(caught.exception.most, 12)
        for many in (0, 1, 12):
            with self.assertRaises(TooMany) as caught:
                greatest_charters(MORE, (plain_turn(MORE),) * many)
            self.assertEqual(caught.exception.most, 500)
        self.assertEqual(greatest_charters(JUST, (plain_turn(JUST),) * 2), [(0, 1)])

    def test_long_expressions(self):
        self.assertEqual(greatest_charters(PICK, ((chain(59),), (chain(60),), (chain(61),))), [(0, 2)])
        self.assertIs(is_good(((PICK, PICK), ((0, 1, (chain(59),), (chain(59),)),))), True)


if __name__ == "__main__":
    unittest.main()
