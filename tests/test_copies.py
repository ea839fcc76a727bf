"""[58] Copies of a worth that went their ways and came back."""

import itertools
import unittest

from goods import COPY, FINITE_KINDS, PICK, SQUARE, THREE, TWO, ZERO, alike_house, any_good_square_house, told_led
from samples import WORD, any_way, chance_of
from test_faults import ALONE, ROAD
from test_goneback import ROW, raises_lot
from test_homes import CHAIN, any_good_houses
from test_returns import CARDS, JUST_HOUSE, MORE_HOUSE
from wherebeen.copies import could_have_been, least_tellers, told_apart
from wherebeen.errors import NoLot, NotFinite, Parted, TooMany
from wherebeen.goneback import gone_back
from wherebeen.outcomes import gone_lots
from wherebeen.parted import parted_ways
from wherebeen.ways import gone_of
from wherebeen.worths import all_worths

A, B = (("say", 0), ("copy", 1)), (("copy", 0), ("say", 0))
SQUARES = ((SQUARE,) * 3, ((0, 1, A, A), (0, 2, B, B)))
CALLS = (lambda house, spot, lots: could_have_been(house, spot, tuple((lot, None) for lot in lots)), told_apart, least_tellers)


def told_rows(house, spot, lots):
    return {worth: tuple(gone_back(house, spot, worth, lot) for lot in lots) for worth in all_worths(house[0][spot])}


def told_apart_by(house, spot, lots):
    rows = told_rows(house, spot, lots)
    for one, other in itertools.combinations(rows, 2):
        if rows[one] == rows[other]:
            return (one, other)
    return None


def any_finite_houses(first, last):
    """Good houses, one of whose forms is finite and has no more than 40 worths, and lots that hang there, with some twice."""
    for chance, house in any_good_houses(first, last, kinds=FINITE_KINDS + (WORD,), spots=4, roads=5, fields=2):
        for spot, form in enumerate(house[0]):
            if all(kind != WORD for _, kind in form) and len(all_worths(form)) <= 40:
                lots = gone_lots(house, spot)
                yield chance, house, spot, tuple(chance.choice(lots) for _ in range(chance.randrange(5)))
                break


class CouldHaveBeen(unittest.TestCase):
    def test_several_one_and_none(self):
        self.assertEqual(could_have_been(SQUARES, 0, (((0,), (0, 1)),)), [(0, 1), (1, 1)])
        self.assertEqual(could_have_been(SQUARES, 0, (((0,), (0, 1)), ((1,), (1, 0)))), [(1, 1)])
        self.assertEqual(could_have_been(SQUARES, 0, (((0,), (0, 1)), ((1,), (1, 0)), ((0, 1), (0, 0)))), [(1, 1)])
        self.assertEqual(could_have_been(SQUARES, 0, (((0,), (1, 1)),)), [])
        self.assertEqual(could_have_been(SQUARES, 0, (((0,), (0, 1)), ((0,), (0, 0)))), [])
        self.assertEqual(could_have_been(SQUARES, 0, (((0, 1), (0, 0)),)), all_worths(SQUARE))

    def test_nothing_told_and_nothing_gone(self):
        self.assertEqual(could_have_been(SQUARES, 1, ()), all_worths(SQUARE))
        self.assertEqual(could_have_been(SQUARES, 1, (((), (1, 0)),)), [(1, 0)])
        self.assertEqual(could_have_been(SQUARES, 1, (((), (1, 0)), ((), (1, 0)))), [(1, 0)])
        self.assertEqual(could_have_been(SQUARES, 1, (((), (1, 0)), ((), (0, 0)))), [])
        self.assertEqual(could_have_been(ALONE, 0, ()), [(0,), (1,)])

    def test_order_of_worths(self):
        form = (("m", ("maybe", TWO)), ("p", TWO))
        house = alike_house(form, [(0, 1)], [(("copy", 0), ("say", 1))], 2)
        self.assertEqual(could_have_been(house, 0, (((0,), (None, 1)),)), [(None, 0), (None, 1)])
        blank = alike_house(form, [(0, 1)], [(("say", (1,)), ("copy", 1))], 2)
        self.assertEqual(could_have_been(blank, 1, (((0,), ((1,), 0)),)), [(None, 0), ((0,), 0), ((1,), 0)])

    def test_by_chance(self):
        sizes = []
        for chance, house, spot, lots in any_finite_houses(0, 80):
            worths = all_worths(house[0][spot])
            first = chance.choice(worths)
            copies = []
            for lot in lots:
                copies.append((lot, gone_back(house, spot, first, lot) if chance.random() < 0.8 else chance.choice(worths)))
            wanted = [worth for worth in worths if all(gone_back(house, spot, worth, lot) == told for lot, told in copies)]
            self.assertEqual(could_have_been(house, spot, tuple(copies)), wanted)
            sizes.append(len(wanted))
        self.assertGreater(min(sizes.count(0), sizes.count(1), sum(size > 1 for size in sizes)), 2)

    def test_led_by_ways(self):
        for seed in range(60):
            chance = chance_of(seed)
            house = any_good_square_house(chance)
            way = any_way(chance, house, 0, 6)
            back, worth = way + way[:-1][::-1], chance.choice(all_worths(SQUARE))
            self.assertIn(worth, could_have_been(house, 0, ((gone_of(house, way), told_led(house, back, worth)),)))


class ToldApart(unittest.TestCase):
    def test_first_two_that_are_not(self):
        self.assertEqual(told_apart(SQUARES, 0, ((0,),)), ((0, 0), (1, 0)))
        self.assertEqual(told_apart(SQUARES, 0, ((1,),)), ((0, 0), (0, 1)))
        self.assertEqual(told_apart(SQUARES, 0, ((0, 1), (0,))), ((0, 0), (1, 0)))
        self.assertIsNone(told_apart(SQUARES, 0, ((0,), (1,))))
        self.assertIsNone(told_apart(SQUARES, 1, ((), (0,))))
        # the first worth has no other with the same copies, and the second one has two
        house = alike_house(THREE, [(0, 1)], [(("table", ("copy", 0), (0, 1, 1)),)], 2)
        self.assertEqual(told_apart(house, 0, ((0,),)), ((1,), (2,)))
        four = (("p", ("pick", 4)),)
        house = alike_house(four, [(0, 1)], [(("table", ("copy", 0), (0, 1, 0, 1)),)], 2)
        self.assertEqual(told_apart(house, 0, ((0,),)), ((0,), (2,)))

    def test_no_lot(self):
        self.assertEqual(told_apart(SQUARES, 0, ()), ((0, 0), (0, 1)))
        one = ((("p", ("pick", 1)),), (("q", ("pick", 1)),))
        self.assertIsNone(told_apart((one[:1], ()), 0, ()))
        self.assertIsNone(told_apart(ALONE, 0, ((),)))

    def test_by_chance(self):
        found = []
        for _, house, spot, lots in any_finite_houses(0, 80):
            self.assertEqual(told_apart(house, spot, lots), told_apart_by(house, spot, lots))
            found.append(told_apart(house, spot, lots) is None)
        self.assertGreater(min(found.count(True), found.count(False)), 10)


class LeastTellers(unittest.TestCase):
    def test_some(self):
        self.assertEqual(least_tellers(SQUARES, 0, ((0,), (1,), (0, 1))), [(0, 1)])
        self.assertEqual(least_tellers(SQUARES, 0, ((0,), (1,), (0,))), [(0, 1), (1, 2)])
        self.assertEqual(least_tellers(SQUARES, 0, ((0,), (), (1,), ())), [(0, 2), (1,), (3,)])

    def test_none_and_the_empty_one(self):
        self.assertEqual(least_tellers(SQUARES, 0, ()), [])
        self.assertEqual(least_tellers(SQUARES, 0, ((0,), (0, 1), (0,))), [])
        one = (("p", ("pick", 1)), ("q", ("pick", 1)))
        house = alike_house(one, [(0, 1)], [(("copy", 0), ("copy", 1))], 2)
        self.assertEqual(least_tellers(house, 0, ()), [()])
        self.assertEqual(least_tellers(house, 1, ((), (0,), ())), [()])

    def test_by_chance(self):
        sizes = []
        for _, house, spot, lots in any_finite_houses(0, 90):
            telling = [set(chosen) for size in range(len(lots) + 1) for chosen in itertools.combinations(range(len(lots)), size)
                       if told_apart_by(house, spot, [lots[at] for at in chosen]) is None]
            wanted = sorted(tuple(sorted(chosen)) for chosen in telling if not any(less < chosen for less in telling))
            self.assertEqual(least_tellers(house, spot, lots), wanted)
            sizes.append(len(wanted))
        self.assertGreater(min(sizes.count(0), sizes.count(1), sum(size > 1 for size in sizes)), 3)

    def test_eight_and_nine(self):
        self.assertEqual(least_tellers(SQUARES, 0, ((),) * 8), [(at,) for at in range(8)])
        self.assertEqual(len(least_tellers(SQUARES, 0, ((0,), (1,)) * 4)), 16)
        for house, spot, lots in ((SQUARES, 0, ((),) * 9), (SQUARES, 0, ((1, 5),) * 12), (MORE_HOUSE, 0, ((1,),) * 9), (ROAD, 0, ((),) * 9),
                                  (CARDS, 0, ((),) * 9)):
            with self.assertRaises(TooMany) as caught:
                least_tellers(house, spot, lots)
            self.assertEqual(caught.exception.most, 8)


class Errors(unittest.TestCase):
    def test_in_their_order(self):
        self.assertEqual(len(CALLS), 3)
        bad = ((PICK,) * 3 + ((("w", WORD),),), ((0, 1, COPY, COPY), (1, 2, COPY, ZERO), (2, 3, (("say", ""),), ZERO)))
        word = ((PICK,) * 3 + ((("w", WORD),),), ((0, 1, COPY, COPY), (1, 2, COPY, COPY), (2, 3, (("say", ""),), ZERO)))
        for call in CALLS:
            with self.assertRaises(TooMany) as caught:
                call(MORE_HOUSE, 2, ((0,),))
            self.assertEqual(caught.exception.most, 500)
            for spot in (0, 3):
                with self.assertRaises(Parted) as caught:
                    call(bad, spot, ((1,),))
                self.assertEqual((caught.exception.worth, caught.exception.way, caught.exception.other), parted_ways(bad))
            with self.assertRaises(NotFinite) as caught:
                call(word, 3, ((0,),))
            self.assertEqual(caught.exception.spot, 3)
            with self.assertRaises(NotFinite) as caught:
                call(CARDS, 1, ())
            self.assertEqual(caught.exception.spot, 1)
            # only this form has to be finite
            raises_lot(self, (1,), lambda lot: call(word, 0, (lot,)), (1,))

    def test_first_lot_that_does_not_hang_there(self):
        for call in CALLS:
            for first, second in (((1,), (2,)), ((0, 2), (1,)), ((1, 2), (1,))):
                with self.assertRaises(NoLot) as caught:
                    call(ROW, 0, ((0,), (), first, (0, 1), second))
                self.assertIs(caught.exception.lot, first)
        self.assertIsNone(told_apart(ROW, 0, ((), (0, 1, 2))))
        self.assertEqual(could_have_been(ROW, 3, (((1, 2), (0,)),)), [(0,), (1,)])
        self.assertEqual(least_tellers(CHAIN, 1, ((1,), (0,))), [(0,)])

    def test_just_500(self):
        self.assertEqual(told_apart(JUST_HOUSE, 0, ((0,),)), ((0,), (1,)))


if __name__ == "__main__":
    unittest.main()
