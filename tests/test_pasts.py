"""[45] Pasts; [10] what a worth can have gone."""

import unittest

from goods import (BITS, COPY, FINITE_KINDS, FORK, LEFT, PICK, RIGHT, SIX_NINE, ZERO, alike_house, all_copied, told_led,
                   told_lots, told_simple_ways, told_states, told_there_and_back)
from samples import any_worth
from test_faults import ALONE
from test_goneback import ROW, raises_lot
from test_homes import any_good_houses, assert_guarded
from test_returns import CARDS, JUST_HOUSE, MORE_HOUSE
from wherebeen.errors import NoLot, NoPast, Parted, TooMany
from wherebeen.houses import hangs_together
from wherebeen.parted import parted_ways
from wherebeen.pasts import first_worth, greatest_past, pasts_of, surely_not_gone
from wherebeen.ways import gone_of
from wherebeen.worths import all_worths

RING = ((BITS,) * 4, ((0, 1, LEFT, LEFT), (0, 3, RIGHT, RIGHT), (1, 2, RIGHT, RIGHT), (2, 3, LEFT, LEFT)))
NINE = alike_house(BITS, SIX_NINE, [LEFT, RIGHT, all_copied(BITS)] * 3)


def small_houses(first, last):
    """Good houses of few worths, with a generator of what tests choose."""
    for chance, house in any_good_houses(first, last, kinds=FINITE_KINDS, spots=4, roads=5, fields=2):
        yield chance, house


def told_all_pasts(house):
    """All (lot, spot, worth) such that some worth becomes this one by a way with this GONE that ends there."""
    found = set()
    for first, form in enumerate(house[0]):
        for worth in all_worths(form):
            found |= {(tuple(sorted(gone)), last, outcome) for gone, last, outcome in told_states(house, first, worth)}
    return found


def told_past(house, spot, worth, lot):
    """Whether a lot is a past as [10] says it."""
    if not lot:
        return True
    if not hangs_together(house, lot) or not any(spot in house[1][road][:2] for road in lot):
        return False
    ways = [way for way in told_simple_ways(house, spot) if set(gone_of(house, way)) <= set(lot)]
    return all(told_led(house, told_there_and_back(way), worth) == worth for way in ways)


class Pasts(unittest.TestCase):
    def test_of_a_fork(self):
        self.assertEqual(pasts_of(FORK, 0, (1, 1, "x")), [()])
        self.assertEqual(pasts_of(FORK, 0, (0, 1, "x")), [(), (0,)])
        self.assertEqual(pasts_of(FORK, 0, (0, 0, "~")), [(), (0,), (0, 1), (1,)])
        self.assertEqual(pasts_of(FORK, 1, (0, 1, "x")), [(), (0,)])
        self.assertEqual(pasts_of(FORK, 1, (1, 0, "x")), [()])
        self.assertEqual([greatest_past(FORK, 0, (0, 1, "x")), surely_not_gone(FORK, 0, (0, 1, "x"))], [(0,), (1,)])
        self.assertEqual([greatest_past(FORK, 0, (1, 1, "x")), surely_not_gone(FORK, 0, (1, 1, "x"))], [(), (0, 1)])
        self.assertEqual([greatest_past(FORK, 2, (0, 0, "")), surely_not_gone(FORK, 2, (0, 0, ""))], [(0, 1), ()])

    def test_of_a_form_alone(self):
        self.assertEqual([pasts_of(ALONE, 0, (1,)), greatest_past(ALONE, 0, (1,)), surely_not_gone(ALONE, 0, (1,))],
                         [[()], (), ()])
        self.assertEqual(first_worth(ALONE, 0, (1,), (), 0), (1,))

    def test_words_and_rows_beyond_the_tests(self):
        self.assertEqual(pasts_of(CARDS, 0, ("x", ("a", "b", "c"))), [()])
        self.assertEqual(pasts_of(CARDS, 0, ("~0", ("~1",))), [(), (0,)])
        self.assertEqual(first_worth(CARDS, 0, ("x", ("a",)), (0,), 1), ("x", ("a",)))
        self.assertEqual(first_worth(CARDS, 1, ("x", None), (0,), 0), ("x", ()))

    def test_a_ring(self):
        self.assertEqual(greatest_past(RING, 0, (0, 1, "x")), (0,))
        self.assertEqual(pasts_of(RING, 0, (0, 0, "x"))[-1], (1, 3))
        self.assertEqual(greatest_past(RING, 0, (0, 0, "x")), (0, 1, 2, 3))
        self.assertEqual(len(pasts_of(RING, 2, (0, 0, "x"))), 11)
        self.assertEqual(surely_not_gone(RING, 2, (0, 1, "x")), (0, 1, 2))

    def test_by_what_comes_of_all_worths(self):
        many = 0
        for chance, house in small_houses(0, 50):
            wanted = told_all_pasts(house)
            for spot, form in enumerate(house[0]):
                for worth in chance.sample(all_worths(form), min(3, len(all_worths(form)))):
                    lots = sorted(lot for lot in told_lots(len(house[1])) if (lot, spot, worth) in wanted)
                    self.assertEqual(pasts_of(house, spot, worth), lots)
                    greatest = tuple(sorted({road for lot in lots for road in lot}))
                    self.assertEqual(greatest_past(house, spot, worth), greatest)
                    self.assertIn(greatest, lots)
                    left = tuple(road for road in range(len(house[1])) if road not in greatest)
                    self.assertEqual(surely_not_gone(house, spot, worth), left)
                    many += 1 < len(lots)
        self.assertGreater(many, 50)

    def test_by_simple_ways(self):
        for chance, house in any_good_houses(0, 50, roads=6):
            spot = chance.randrange(len(house[0]))
            worth = any_worth(chance, house[0][spot])
            lots = sorted(lot for lot in told_lots(len(house[1])) if told_past(house, spot, worth, lot))
            self.assertEqual(pasts_of(house, spot, worth), lots)

    def test_nine_roads(self):
        for worth in ((0, 0, "x"), (0, 1, "x"), (1, 1, "x")):
            lots = sorted(lot for lot in told_lots(9) if told_past(NINE, 0, worth, lot))
            self.assertEqual(pasts_of(NINE, 0, worth), lots)
        self.assertEqual([greatest_past(NINE, 5, (0, 0, "")), surely_not_gone(NINE, 5, (0, 0, ""))], [tuple(range(9)), ()])


class FirstWorth(unittest.TestCase):
    def test_each_past_and_each_form_at_it(self):
        firsts = 0
        for chance, house in any_good_houses(0, 60, roads=5, fields=3):
            spot = chance.randrange(len(house[0]))
            worth = any_worth(chance, house[0][spot])
            for lot in pasts_of(house, spot, worth):
                spots = {spot} | {end for road in lot for end in house[1][road][:2]}
                for first in range(len(house[0])):
                    if first not in spots:
                        with self.assertRaises(NoPast) as caught:
                            first_worth(house, spot, worth, lot, first)
                        self.assertIs(caught.exception.lot, lot)
                        continue
                    found = first_worth(house, spot, worth, lot, first)
                    ends = [outcome for gone, last, outcome in told_states(house, first, found)
                            if gone == frozenset(lot) and last == spot]
                    self.assertEqual(ends, [worth])
                    firsts += first != spot
        self.assertGreater(firsts, 100)

    def test_led_again_by_several_ways(self):
        worth = first_worth(RING, 2, (0, 0, "x"), (0, 1, 2, 3), 0)
        for way in ((0, 1, 2, 3, 0, 1, 2), (0, 1, 0, 3, 2, 1, 2), (0, 3, 2, 1, 0, 3, 2)):
            self.assertEqual(gone_of(RING, way), (0, 1, 2, 3))
            self.assertEqual(told_led(RING, way, worth), (0, 0, "x"))

    def test_the_worth_itself(self):
        self.assertEqual(first_worth(FORK, 0, (1, 1, "x"), (), 0), (1, 1, "x"))
        self.assertEqual(first_worth(FORK, 0, (0, 1, "x"), (0,), 0), (0, 1, "x"))
        for first in (1, 2):
            with self.assertRaises(NoPast):
                first_worth(FORK, 0, (1, 1, "x"), (), first)

    def test_no_past(self):
        lot = (0, 1)
        for spot, worth, first in ((0, (0, 1, "x"), 0), (0, (0, 1, "x"), 2), (1, (1, 1, "x"), 1), (2, (1, 0, "x"), 0)):
            with self.assertRaises(NoPast) as caught:
                first_worth(FORK, spot, worth, lot, first)
            self.assertIs(caught.exception.lot, lot)

    def test_no_lot_goes_ahead(self):
        lots = ((1,), (2,), (1, 2), (0, 2))
        for lot in lots:
            for first in range(4):
                raises_lot(self, lot, first_worth, ROW, 0, (1,), lot, first)
                raises_lot(self, lot, first_worth, ROW, 0, (0,), lot, first)

    def test_errors_in_order(self):
        assert_guarded(self, (lambda house: pasts_of(house, 0, (1,)), lambda house: greatest_past(house, 0, (1,)),
                              lambda house: surely_not_gone(house, 0, (1,)),
                              lambda house: first_worth(house, 0, (1,), (0,), 0), lambda house: first_worth(house, 0, (0,), (), 1)))
        with self.assertRaises(TooMany):
            first_worth(MORE_HOUSE, 0, (1,), (1,), 0)
        bad = ((PICK,) * 3, ((0, 1, COPY, COPY), (1, 2, COPY, ZERO)))
        with self.assertRaises(Parted) as caught:
            first_worth(bad, 0, (1,), (1,), 2)
        self.assertEqual((caught.exception.worth, caught.exception.way, caught.exception.other), parted_ways(bad))
        self.assertEqual(pasts_of(JUST_HOUSE, 0, (0,)), [(), (0,)])
        with self.assertRaises(NoLot):
            first_worth(ROW, 0, (0,), (1,), 0)


if __name__ == "__main__":
    unittest.main()
