"""[43] There and back by a lot; [44] worths that become one."""

import unittest

from goods import (BITS, COPY, FORK, LEFT, PICK, RIGHT, SIX_NINE, ZERO, alike_house, all_copied, any_small_house, told_led,
                   told_lots, told_states)
from samples import any_way, any_worth, chance_of
from test_faults import ALONE
from test_homes import CHAIN, any_good_houses, assert_guarded
from test_returns import CARDS, JUST_HOUSE, MORE_HOUSE
from wherebeen.errors import NoLot, Parted, TooMany
from wherebeen.goneback import gone_back, gone_to, merging_lots
from wherebeen.outcomes import gone_lots
from wherebeen.parted import parted_ways
from wherebeen.probes import tests_many
from wherebeen.ways import gone_of

BOTH = ((BITS,) * 3, ((0, 1, LEFT, LEFT), (0, 2, LEFT, LEFT)))
ROW = ((PICK,) * 4, ((0, 1, COPY, COPY), (1, 2, ZERO, ZERO), (2, 3, COPY, COPY)))


def told_gone(house, spot, worth):
    """The dict from all (lot, last) to the one worth that a worth of a good house becomes."""
    found = {}
    for gone, last, outcome in told_states(house, spot, worth):
        found.setdefault((tuple(sorted(gone)), last), set()).add(outcome)
    assert all(len(outcomes) == 1 for outcomes in found.values())
    return {pair: min(outcomes) for pair, outcomes in found.items()}


def told_merging(house, spot, one, other):
    ones, others = told_gone(house, spot, one), told_gone(house, spot, other)
    lots = [set(lot) for lot, last in ones if last == spot and ones[lot, last] == others[lot, last]]
    return sorted(tuple(sorted(lot)) for lot in lots if not any(less < lot for less in lots))


def raises_lot(test, lot, call, *given):
    with test.assertRaises(NoLot) as caught:
        call(*given)
    test.assertIs(caught.exception.lot, lot)


class GoneBack(unittest.TestCase):
    def test_no_road_one_and_all(self):
        worth = (1, 1, "x")
        self.assertEqual([gone_back(FORK, 0, worth, lot) for lot in ((), (0,), (1,), (0, 1))],
                         [worth, (0, 1, "x"), (1, 0, "x"), (0, 0, "x")])
        self.assertEqual([gone_back(FORK, 1, worth, lot) for lot in ((), (0,), (0, 1))], [worth, (0, 1, "x"), (0, 0, "x")])
        self.assertEqual(gone_back(ALONE, 0, (1,), ()), (1,))
        self.assertEqual(gone_back(CARDS, 0, ("~", ("a", "b", "c")), (0,)), ("~", ("a",)))
        house = alike_house(BITS, SIX_NINE, [LEFT, RIGHT, all_copied(BITS)] * 3)
        self.assertEqual(gone_back(house, 4, worth, tuple(range(9))), (0, 0, "x"))
        self.assertEqual(gone_back(house, 4, worth, (1, 4, 7)), (1, 0, "x"))

    def test_each_last_form(self):
        worth = (1, 1, "x")
        self.assertEqual([gone_to(FORK, 1, worth, (0, 1), last) for last in (0, 1, 2)], [(0, 0, "x")] * 3)
        self.assertEqual([gone_to(FORK, 0, worth, (0,), last) for last in (0, 1)], [(0, 1, "x")] * 2)
        self.assertEqual(gone_to(FORK, 2, worth, (), 2), worth)
        self.assertEqual(gone_to(CARDS, 0, ("x", ("a", "b")), (0,), 1), ("x", ("a",)))
        self.assertEqual(gone_to(CARDS, 1, ("x", None), (0,), 0), ("x", ()))
        # in a ring all roads have to be gone, not only those that lead there
        ring = ((BITS,) * 3, ((0, 1, LEFT, LEFT), (0, 2, RIGHT, RIGHT), (1, 2, LEFT, LEFT)))
        self.assertEqual(gone_to(ring, 0, worth, (0, 1, 2), 1), (0, 0, "x"))
        self.assertEqual(gone_to(ring, 0, worth, (0, 2), 2), (0, 1, "x"))
        self.assertEqual(gone_to(ring, 0, worth, (0, 2), 1), (0, 1, "x"))

    def test_lots_that_do_not_hang_there(self):
        worth = (1,)
        # apart from the form; hanging together elsewhere; falling apart; falling apart with a road at the form
        for spot, lot in ((0, (1,)), (0, (2,)), (0, (1, 2)), (0, (0, 2)), (1, (0, 2)), (3, (0,)), (3, (0, 1)), (2, (0,))):
            raises_lot(self, lot, gone_back, ROW, spot, worth, lot)
            for last in range(4):
                raises_lot(self, lot, gone_to, ROW, spot, worth, lot, last)
        self.assertEqual(gone_back(ROW, 1, worth, (0, 1)), (0,))

    def test_last_at_no_road_of_the_lot(self):
        for lot, last in (((), 1), ((), 3), ((0,), 2), ((0, 1), 3)):
            raises_lot(self, lot, gone_to, ROW, 0, (1,), lot, last)
        self.assertEqual(gone_to(ROW, 0, (1,), (), 0), (1,))
        self.assertEqual(gone_to(ROW, 0, (1,), (0, 1), 2), (0,))

    def test_all_lots_by_chance(self):
        hanging = others = 0
        for chance, house in any_good_houses(0, 60, roads=4):
            spot = chance.randrange(len(house[0]))
            worth = any_worth(chance, house[0][spot])
            wanted = told_gone(house, spot, worth)
            for lot in told_lots(len(house[1])):
                if (lot, spot) in wanted:
                    self.assertEqual(gone_back(house, spot, worth, lot), wanted[lot, spot])
                    hanging += 1
                else:
                    raises_lot(self, lot, gone_back, house, spot, worth, lot)
                    others += 1
                last = chance.randrange(len(house[0]))
                if (lot, last) in wanted:
                    self.assertEqual(gone_to(house, spot, worth, lot, last), wanted[lot, last])
                else:
                    raises_lot(self, lot, gone_to, house, spot, worth, lot, last)
        self.assertGreater(min(hanging, others), 80)

    def test_by_any_way(self):
        for chance, house in any_good_houses(60, 110):
            spot = chance.randrange(len(house[0]))
            for _ in range(3):
                way = any_way(chance, house, spot, 14)
                worth = any_worth(chance, house[0][spot])
                self.assertEqual(gone_to(house, spot, worth, gone_of(house, way), way[-1]), told_led(house, way, worth))
                back = way + way[:-1][::-1]
                self.assertEqual(gone_back(house, spot, worth, gone_of(house, way)), told_led(house, back, worth))

    def test_errors_in_order(self):
        assert_guarded(self, (lambda house: gone_back(house, 0, (1,), ()), lambda house: gone_to(house, 1, (0,), (0,), 0),
                              lambda house: gone_to(house, 0, (0,), (), 1)))
        bad = (ROW[0], ROW[1][:2] + ((2, 3, COPY, ZERO),))
        for call in (gone_back, lambda *given: gone_to(*given, 3)):
            with self.assertRaises(TooMany) as caught:
                call(MORE_HOUSE, 0, (1,), (1,))
            self.assertEqual(caught.exception.most, 500)
            with self.assertRaises(Parted) as caught:
                call(bad, 0, (1,), (1,))
            self.assertEqual((caught.exception.worth, caught.exception.way, caught.exception.other), parted_ways(bad))
        self.assertEqual(gone_back(JUST_HOUSE, 0, (1,), (0,)), (0,))


class Merging(unittest.TestCase):
    def test_equal_worths(self):
        for spot in range(3):
            self.assertEqual(merging_lots(FORK, spot, (1, 1, "x"), (1, 1, "x")), [()])
        self.assertEqual(merging_lots(ALONE, 0, (1,), (1,)), [()])

    def test_one_several_none(self):
        self.assertEqual(merging_lots(FORK, 0, (1, 1, "x"), (0, 1, "x")), [(0,)])
        self.assertEqual(merging_lots(FORK, 0, (1, 1, "x"), (0, 0, "x")), [(0, 1)])
        self.assertEqual(merging_lots(FORK, 1, (1, 1, "x"), (1, 0, "x")), [(0, 1)])
        self.assertEqual(merging_lots(BOTH, 0, (1, 1, "x"), (0, 1, "x")), [(0,), (1,)])
        self.assertEqual(merging_lots(BOTH, 1, (1, 1, "x"), (0, 1, "x")), [(0,)])
        self.assertEqual(merging_lots(BOTH, 0, (1, 1, "x"), (0, 0, "x")), [])
        self.assertEqual(merging_lots(ALONE, 0, (1,), (0,)), [])
        self.assertEqual(merging_lots(CHAIN, 2, (1,), (0,)), [(0, 1)])

    def test_words_and_rows_beyond_the_tests(self):
        self.assertEqual(merging_lots(CARDS, 0, ("x", ("a", "b", "c")), ("x", ("a", "d"))), [(0,)])
        self.assertEqual(merging_lots(CARDS, 0, ("x", ("a", "b")), ("x", ("b", "a"))), [])
        self.assertEqual(merging_lots(CARDS, 0, ("x", ("~", "")), ("~0", ("~", ""))), [])
        self.assertEqual(merging_lots(CARDS, 1, ("x", ("a",)), ("x", None)), [])

    def test_by_chance(self):
        sizes = []
        for chance, house in any_good_houses(0, 60, roads=6, fields=3):
            spot = chance.randrange(len(house[0]))
            one, other = (any_worth(chance, house[0][spot]) for _ in range(2))
            wanted = told_merging(house, spot, one, other)
            self.assertEqual(merging_lots(house, spot, one, other), wanted)
            sizes.append(len(wanted))
        for seed in range(150):
            chance = chance_of(seed)
            house = any_small_house(chance)
            if max(map(tests_many, house[0])) <= 30 and parted_ways(house) is None:
                spot = chance.randrange(len(house[0]))
                one, other = (any_worth(chance, house[0][spot]) for _ in range(2))
                wanted = told_merging(house, spot, one, other)
                self.assertEqual(merging_lots(house, spot, one, other), wanted)
                sizes.append(len(wanted))
        self.assertGreater(min(sizes.count(0), sizes.count(1), 10 * sum(size > 1 for size in sizes)), 20)

    def test_nine_roads(self):
        house = alike_house(BITS, SIX_NINE, [LEFT, RIGHT, all_copied(BITS)] * 3)
        self.assertGreater(len(gone_lots(house, 0)), 300)
        self.assertEqual(merging_lots(house, 0, (1, 1, "x"), (0, 1, "x")), told_merging(house, 0, (1, 1, "x"), (0, 1, "x")))

    def test_errors(self):
        assert_guarded(self, (lambda house: merging_lots(house, 0, (1,), (1,)),))


if __name__ == "__main__":
    unittest.main()
