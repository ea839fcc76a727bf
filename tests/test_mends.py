"""[59] Mends."""

import itertools
import unittest

from goods import (BITS, COPY, FLIP, FORK, LEFT, ONE, PICK, SIX_NINE, ZERO, alike_house, all_copied, any_small_house, told_good)
from samples import WORD, any_house, chance_of
from test_faults import ALONE, ROAD, TURNING
from test_returns import CARD, CARDS, FULL, JUST_HOUSE, MORE_HOUSE, UNLIKE
from wherebeen.errors import TooMany
from wherebeen.faults import is_good
from wherebeen.forms import is_house, is_value
from wherebeen.mends import is_mend, least_mends, made_plain, places_of
from wherebeen.probes import tests_many
from wherebeen.worths import least_worth

BOTH = ((0, 0, 0), (0, 1, 0))
FLIPPING = ((PICK, PICK), ((0, 1, COPY, FLIP),))


def told_plain(house, places):
    forms, roads = house
    made = []
    for index, road in enumerate(roads):
        turns = []
        for side in (0, 1):
            form = forms[road[1 - side]]
            turns.append(tuple(("say", least_worth(form)[at]) if (index, side, at) in places else part
                               for at, part in enumerate(road[2 + side])))
        made.append(road[:2] + tuple(turns))
    return (forms, tuple(made))


def told_mends(house, places):
    lots = [lot for size in range(3) for lot in itertools.combinations(places, size) if told_good(told_plain(house, lot))]
    return sorted(lot for lot in lots if not any(set(less) < set(lot) for less in lots))


class Places(unittest.TestCase):
    def test_all(self):
        self.assertEqual(places_of(ALONE), [])
        self.assertEqual(places_of(ROAD), [(0, 0, 0), (0, 1, 0)])
        self.assertEqual(places_of(CARDS), [(0, 0, 0), (0, 0, 1), (0, 1, 0), (0, 1, 1)])
        house = ((PICK, BITS, FULL), ((0, 1, (("copy", 0), ("say", 0), ("say", "")), ZERO),
                                      (1, 2, (("copy", 2), ("say", ())), all_copied(BITS)[:2] + (("copy", 0),))))
        self.assertEqual(places_of(house), [(0, 0, 0), (0, 0, 1), (0, 0, 2), (0, 1, 0), (1, 0, 0), (1, 0, 1), (1, 1, 0), (1, 1, 1),
                                            (1, 1, 2)])
        self.assertEqual(len(places_of(alike_house(BITS, SIX_NINE, [LEFT] * 9))), 54)
        self.assertEqual(len(places_of(MORE_HOUSE)), 6)


class MadePlain(unittest.TestCase):
    def test_each_kind(self):
        form = (("w", WORD), ("p", ("pick", 3)), ("m", ("maybe", WORD)), ("r", ("row", ("pick", 2))))
        turn = (("say", "x"), ("say", 2), ("some", ("copy", 0)), ("say", (1,)))
        house = ((form, form), ((0, 1, turn, turn),))
        plain = (("say", ""), ("say", 0), ("say", None), ("say", ()))
        self.assertEqual(made_plain(house, tuple(places_of(house))), ((form, form), ((0, 1, plain, plain),)))
        for side in (0, 1):
            for at in range(4):
                turns = [turn, turn]
                turns[side] = turn[:at] + (plain[at],) + turn[at + 1:]
                self.assertEqual(made_plain(house, ((0, side, at),)), ((form, form), ((0, 1, *turns),)))

    def test_the_form_to_which_the_turn_leads(self):
        self.assertEqual(made_plain(CARDS, ((0, 0, 1),)), ((FULL, CARD), ((0, 1, (("copy", 0), ("say", None)), CARDS[1][0][3]),)))
        self.assertEqual(made_plain(CARDS, ((0, 1, 1),)), ((FULL, CARD), ((0, 1, CARDS[1][0][2], (("copy", 0), ("say", ()))),)))

    def test_no_place(self):
        for house in (ALONE, ROAD, FORK, MORE_HOUSE):
            self.assertEqual(made_plain(house, ()), house)

    def test_by_chance(self):
        for seed in range(100):
            chance = chance_of(seed)
            house = any_house(chance, deepest=3)
            places = tuple(place for place in places_of(house) if chance.random() < 0.3)
            found = made_plain(house, places)
            self.assertTrue(is_house(found))
            self.assertEqual(found, told_plain(house, places))
            for road, side, field in places:
                kind = house[0][house[1][road][1 - side]][field][1]
                self.assertTrue(is_value(kind, found[1][road][2 + side][field][1]))


class Mends(unittest.TestCase):
    def test_of_a_good_house(self):
        for house in (ALONE, FORK, CARDS):
            self.assertIs(is_mend(house, ()), True)
            self.assertEqual(least_mends(house, ()), [()])
            self.assertEqual(least_mends(house, tuple(places_of(house))[:12]), [()])
        self.assertIs(is_mend(CARDS, ((0, 0, 1),)), False)
        self.assertIs(is_mend(CARDS, ((0, 0, 0), (0, 0, 1), (0, 1, 0), (0, 1, 1))), True)

    def test_one_place(self):
        # there and back say the same once the way there does, too
        self.assertEqual(least_mends(ROAD, BOTH), [((0, 0, 0),)])
        self.assertEqual(least_mends(ROAD, BOTH[1:]), [])
        self.assertEqual([is_mend(ROAD, lot) for lot in ((), BOTH[:1], BOTH[1:], BOTH)], [False, True, False, True])

    def test_two_places(self):
        self.assertEqual(least_mends(FLIPPING, BOTH), [BOTH])
        self.assertEqual([is_mend(FLIPPING, lot) for lot in ((), BOTH[:1], BOTH[1:], BOTH)], [False, False, False, True])
        self.assertEqual(least_mends(FLIPPING, BOTH[:1]), [])
        self.assertEqual(least_mends(FLIPPING, ()), [])

    def test_on_two_roads(self):
        # both returns say 0 once the second way back does
        self.assertEqual(least_mends(UNLIKE, tuple(places_of(UNLIKE))), [((1, 1, 0),)])
        ones = ((PICK,) * 3, ((0, 1, COPY, ZERO), (1, 2, COPY, ZERO)))
        self.assertEqual(least_mends(ones, tuple(places_of(ones))), told_mends(ones, tuple(places_of(ones))))
        self.assertEqual(least_mends(ones, tuple(places_of(ones))), [((0, 0, 0), (1, 0, 0))])

    def test_one_place_and_two_in_order(self):
        house = ((PICK,) * 3, ((0, 1, FLIP, FLIP), (0, 2, ONE, ZERO), (1, 2, FLIP, FLIP)))
        self.assertEqual(least_mends(house, tuple(places_of(house))), [((0, 0, 0), (0, 1, 0)), ((1, 0, 0),)])
        self.assertEqual(told_mends(house, tuple(places_of(house))), [((0, 0, 0), (0, 1, 0)), ((1, 0, 0),)])

    def test_none_that_lies_in_another(self):
        found = least_mends(TURNING, tuple(places_of(TURNING)))
        self.assertEqual(found, told_mends(TURNING, tuple(places_of(TURNING))))
        self.assertTrue(all(len(mend) == 2 for mend in found))
        self.assertTrue(found)

    def test_by_chance(self):
        sizes = []
        for seed in range(200):
            chance = chance_of(seed)
            house = any_small_house(chance) if seed % 2 else any_house(chance, (("pick", 2),), 1, 3, 2)
            places = places_of(house)
            places = tuple(sorted(chance.sample(places, min(6, len(places)))))
            if max(map(tests_many, house[0])) <= 12:
                wanted = told_mends(house, places)
                self.assertEqual(least_mends(house, places), wanted)
                sizes += [len(mend) for mend in wanted]
                for lot in [places, places[:1]]:
                    self.assertIs(is_mend(house, lot), told_good(told_plain(house, lot)))
        for size in range(3):
            self.assertGreater(sizes.count(size), 10, size)

    def test_twelve_places_and_thirteen(self):
        house = alike_house(BITS, [(0, 1), (0, 2), (1, 2)], [LEFT, (("say", 1), ("copy", 1), ("copy", 2)), LEFT], 3)
        places = tuple(places_of(house))
        self.assertEqual(len(places), 18)
        self.assertEqual(least_mends(house, places[:12]), told_mends(house, places[:12]))
        self.assertEqual(least_mends(house, places[6:]), told_mends(house, places[6:]))
        for many in (13, 18):
            with self.assertRaises(TooMany) as caught:
                least_mends(house, places[:many])
            self.assertEqual(caught.exception.most, 12)
            with self.assertRaises(TooMany) as caught:
                least_mends(alike_house(BITS, [(0, 1), (0, 2), (1, 2)], [LEFT] * 3, 3), places[:many])
            self.assertEqual(caught.exception.most, 12)

    def test_500(self):
        for call in (is_mend, least_mends):
            for places in ((), ((0, 0, 0),)):
                with self.assertRaises(TooMany) as caught:
                    call(MORE_HOUSE, places)
                self.assertEqual(caught.exception.most, 500)
        self.assertEqual(least_mends(JUST_HOUSE, ()), [()])
        more = alike_house(MORE_HOUSE[0][2], [(0, 1), (0, 2), (1, 2)], [all_copied(MORE_HOUSE[0][2])] * 3, 3)
        with self.assertRaises(TooMany) as caught:
            least_mends(more, tuple(places_of(more))[:13])
        self.assertEqual(caught.exception.most, 12)
        with self.assertRaises(TooMany) as caught:
            least_mends(more, tuple(places_of(more))[:12])
        self.assertEqual(caught.exception.most, 500)

    def test_mends_make_good_houses(self):
        house = ((PICK,) * 4, ((0, 1, COPY, COPY), (0, 2, ONE, ONE), (1, 3, ZERO, ZERO), (2, 3, COPY, COPY)))
        found = least_mends(house, tuple(places_of(house)))
        self.assertEqual(found, told_mends(house, tuple(places_of(house))))
        for mend in found:
            self.assertTrue(is_good(made_plain(house, mend)))


if __name__ == "__main__":
    unittest.main()
