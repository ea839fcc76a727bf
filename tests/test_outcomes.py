"""[28] What comes of worths by all ways with the same roads gone."""

import unittest

from goods import (COPY, FLIP, FORK, ONE, PICK, SIX_NINE, TWO, ZERO, alike_house, all_copied, any_pairs, any_small_house,
                   good_house, told_good, told_lots, told_states)
from samples import WORD, any_worth, chance_of
from test_faults import ALONE, BACK_FLIPS, ROAD, TURNING
from test_houses import house_of
from test_returns import CARDS, JUST_HOUSE, MORE_HOUSE, UNLIKE
from wherebeen.errors import TooMany
from wherebeen.faults import is_good
from wherebeen.houses import hangs_together
from wherebeen.outcomes import gone_lots, hangs_on_gone, is_good_by_all, outcomes
from wherebeen.probes import tests_many
from wherebeen.worths import order_key


def star_house(turns, fields):
    """A house with a form in the middle; from each other form one of the turns leads back to it."""
    form = tuple((name, WORD) for name in "abcde"[:fields])
    said = [tuple(("say", item) if isinstance(item, str) else ("copy", item) for item in turn) for turn in turns]
    plain = all_copied(form)
    return ((form,) * (len(turns) + 1), tuple((0, spot + 1, plain, turn) for spot, turn in enumerate(said)))


# of these the outcomes of one worth are just 20,000 together, and one more
JUST_MANY = (star_house([(3, 2, 3, 1), (2, 0, 1, 3), (1, "x", 2, 3), (0, 1, 2, 3), (3, 3, 1, 0)], 4), ("a", "b", "c", "d"))
ONE_MORE = (star_house([(1, 0, 2, 3), (0, 1, "x", 2), (0, 1, 0, 0), (2, 3, 1, 0), (1, 3, "y", 1)], 4), ("a", "b", "c", "d"))


def lots_of(gone):
    return tuple(sorted(gone))


class GoneLots(unittest.TestCase):
    def test_lots(self):
        self.assertEqual(gone_lots(ALONE, 0), [()])
        self.assertEqual([gone_lots(ROAD, spot) for spot in (0, 1)], [[(), (0,)]] * 2)
        self.assertEqual(gone_lots(FORK, 0), [(), (0,), (0, 1), (1,)])
        self.assertEqual([gone_lots(FORK, spot) for spot in (1, 2)], [[(), (0,), (0, 1)], [(), (0, 1), (1,)]])
        tree = house_of(4, (0, 1), (1, 2), (2, 3))
        self.assertEqual(gone_lots(tree, 1), [(), (0,), (0, 1), (0, 1, 2), (1,), (1, 2)])
        self.assertEqual(gone_lots(tree, 3), [(), (0, 1, 2), (1, 2), (2,)])

    def test_many(self):
        house = alike_house(PICK, SIX_NINE, [COPY] * 9)
        lots = gone_lots(house, 4)
        self.assertEqual(lots, [lot for lot in sorted(told_lots(9)) if not lot or hangs_together(house, lot) and any(
            4 in house[1][road][:2] for road in lot)])
        self.assertGreater(len(lots), 300)
        lots.clear()
        self.assertGreater(len(gone_lots(house, 4)), 300)

    def test_by_chance(self):
        for seed in range(80):
            chance = chance_of(seed)
            many = chance.randint(1, 6)
            pairs = any_pairs(chance, many)
            house = alike_house(PICK, pairs, [FLIP] * len(pairs), many)
            for spot in range(many):
                wanted = sorted({lots_of(gone) for gone, _, _ in told_states(house, spot, (0,))})
                self.assertEqual(gone_lots(house, spot), wanted)


class Outcomes(unittest.TestCase):
    def test_of_a_good_house(self):
        self.assertEqual(outcomes(ALONE, 0, (1,)), {((), 0): [(1,)]})
        self.assertEqual(outcomes(FORK, 1, (1, 1, "x")), {
            ((), 1): [(1, 1, "x")], ((0,), 0): [(0, 1, "x")], ((0,), 1): [(0, 1, "x")], ((0, 1), 0): [(0, 0, "x")],
            ((0, 1), 1): [(0, 0, "x")], ((0, 1), 2): [(0, 0, "x")]})
        self.assertEqual(outcomes(CARDS, 0, ("x", ("a", "b"))), {
            ((), 0): [("x", ("a", "b"))], ((0,), 0): [("x", ("a",))], ((0,), 1): [("x", ("a",))]})

    def test_of_a_bad_house(self):
        self.assertEqual(outcomes(ROAD, 0, (1,)), {((), 0): [(1,)], ((0,), 0): [(0,)], ((0,), 1): [(0,), (1,)]})
        self.assertEqual(outcomes(ROAD, 0, (0,)), {((), 0): [(0,)], ((0,), 0): [(0,)], ((0,), 1): [(0,)]})

    def test_orders(self):
        house = ((PICK,) * 3, ((0, 1, FLIP, COPY), (0, 2, COPY, FLIP)))
        found = outcomes(house, 0, (1,))
        self.assertEqual(list(found), sorted(found))
        self.assertEqual(list(found), [((), 0), ((0,), 0), ((0,), 1), ((0, 1), 0), ((0, 1), 1), ((0, 1), 2), ((1,), 0), ((1,), 2)])
        self.assertEqual(found[((0, 1), 2)], [(0,), (1,)])
        form = (("m", ("maybe", TWO)), ("w", WORD))
        around = (("when", ("is", 0), (("some", ("say", 1)), ("when", ("else", ("copy", 0), ("say", 0)), (
            ("say", None), ("some", ("say", 0)))))), ("copy", 1))
        found = outcomes(((form, form), ((0, 1, around, all_copied(form)),)), 0, ((0,), "x"))
        self.assertEqual(found[((0,), 1)], [(None, "x"), ((0,), "x"), ((1,), "x")])

    def test_by_chance(self):
        for seed in range(250):
            chance = chance_of(seed)
            house = any_small_house(chance)
            if max(map(tests_many, house[0])) > 500:
                continue
            spot = chance.randrange(len(house[0]))
            worth = any_worth(chance, house[0][spot])
            wanted = {}
            for gone, last, outcome in told_states(house, spot, worth):
                wanted.setdefault((lots_of(gone), last), []).append(outcome)
            wanted = {pair: sorted(wanted[pair], key=order_key) for pair in sorted(wanted)}
            found = outcomes(house, spot, worth)
            self.assertEqual(list(found.items()), list(wanted.items()))
            self.assertIs(hangs_on_gone(house, spot, worth), all(len(alike) == 1 for alike in wanted.values()))
            self.assertEqual(sorted({gone for gone, _ in found}), gone_lots(house, spot))

    def test_just_20000(self):
        found = outcomes(JUST_MANY[0], 0, JUST_MANY[1])
        self.assertEqual(sum(map(len, found.values())), 20000)
        self.assertIs(hangs_on_gone(JUST_MANY[0], 0, JUST_MANY[1]), False)
        self.assertEqual(len(told_states(ONE_MORE[0], 0, ONE_MORE[1])), 20001)

    def test_more_than_20000(self):
        for call in (outcomes, hangs_on_gone):
            with self.assertRaises(TooMany) as caught:
                call(ONE_MORE[0], 0, ONE_MORE[1])
            self.assertEqual(caught.exception.most, 20000)
        self.assertEqual(outcomes(ONE_MORE[0], 0, ("x",) * 4)[((), 0)], [("x",) * 4])

    def test_500(self):
        self.assertEqual(gone_lots(JUST_HOUSE, 0), [(), (0,)])
        self.assertEqual([hangs_on_gone(JUST_HOUSE, 0, (1,)), is_good_by_all(JUST_HOUSE)], [True, True])
        for call in (lambda: gone_lots(MORE_HOUSE, 0), lambda: outcomes(MORE_HOUSE, 0, (1,)),
                     lambda: hangs_on_gone(MORE_HOUSE, 0, (1,)), lambda: is_good_by_all(MORE_HOUSE)):
            with self.assertRaises(TooMany) as caught:
                call()
            self.assertEqual(caught.exception.most, 500)


class ByAll(unittest.TestCase):
    def test_hangs_on_gone(self):
        self.assertIs(hangs_on_gone(ROAD, 0, (0,)), True)
        self.assertIs(hangs_on_gone(ROAD, 0, (1,)), False)
        self.assertIs(hangs_on_gone(UNLIKE, 1, (1,)), False)
        self.assertIs(hangs_on_gone(FORK, 2, (1, 1, "~")), True)

    def test_houses(self):
        for house, wanted in ((ALONE, True), (FORK, True), (CARDS, True), (ROAD, False), (UNLIKE, False), (TURNING, False),
                              (BACK_FLIPS, False), (((PICK,) * 2, ((0, 1, ONE, ONE),)), True),
                              (((PICK,) * 2, ((0, 1, ONE, ZERO),)), True)):
            self.assertIs(is_good_by_all(house), wanted, house)
            self.assertIs(is_good(house), wanted)

    def test_by_chance(self):
        rows = []
        for seed in range(400, 700):
            house = any_small_house(chance_of(seed))
            if max(map(tests_many, house[0])) <= 40:
                self.assertIs(is_good_by_all(house), told_good(house))
                rows.append(is_good(house))
                self.assertIs(is_good_by_all(house), rows[-1])
        self.assertGreater(min(rows.count(True), rows.count(False)), 50)

    def test_nine_roads(self):
        form = (("a", ("pick", 4)), ("b", ("pick", 4)), ("c", ("maybe", ("pick", 3))))
        lose = [(("say", 0), ("copy", 1), ("copy", 2)), (("copy", 0), ("say", 0), ("copy", 2)),
                (("copy", 0), ("copy", 1), ("say", None))]
        house = alike_house(form, SIX_NINE, lose * 3)
        self.assertIs(is_good_by_all(house), True)
        self.assertIs(hangs_on_gone(house, 0, (1, 2, (1,))), True)
        found = outcomes(house, 0, (1, 2, (1,)))
        self.assertGreater(len(found), 1000)
        self.assertEqual({gone for gone, _ in found}, set(gone_lots(house, 0)))
        last = house[1][8]
        turning = (("table", ("copy", 0), (1, 2, 3, 0)),) + last[2][1:]
        house = (house[0], house[1][:8] + (last[:2] + (turning, turning),))
        self.assertIs(is_good_by_all(house), False)
        self.assertIs(hangs_on_gone(house, 5, (1, 2, (1,))), False)

    def test_made_good(self):
        for seed in range(40):
            house = good_house(chance_of(seed))
            if max(map(tests_many, house[0])) <= 500:
                self.assertIs(is_good_by_all(house), True)


if __name__ == "__main__":
    unittest.main()
