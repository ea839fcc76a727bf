"""[31] The homes of worths."""

import unittest

from goods import (COPY, FLIP, FORK, ONE, PICK, SIX_NINE, TWO, ZERO, alike_house, any_small_house, good_house, told_led)
from samples import WORD, any_worth, chance_of
from test_faults import ALONE, ROAD, TURNING
from test_returns import CARDS, JUST_HOUSE, MORE_HOUSE, UNLIKE
from test_turns import chain
from wherebeen.errors import Parted, TooMany
from wherebeen.homes import homes_of, passes
from wherebeen.parted import parted_ways
from wherebeen.probes import tests_many
from wherebeen.returns import is_lossless

CHAIN = ((PICK,) * 3, ((0, 1, ZERO, ZERO), (1, 2, COPY, COPY)))


def told_passes(house, spot, worth, road):
    near = [end for end in house[1][road][:2] if end != spot][0]
    return told_led(house, (spot, near, spot), worth) == worth


def told_homes(house, spot, worth):
    found = {(spot, worth)}
    for _ in house[0]:
        for here, its_worth in list(found):
            for index, road in enumerate(house[1]):
                if here in road[:2] and told_passes(house, here, its_worth, index):
                    near = road[1] if here == road[0] else road[0]
                    found.add((near, told_led(house, (here, near), its_worth)))
    return sorted(found, key=lambda home: home[0])


def any_good_houses(first, last, **more):
    for seed in range(first, last):
        chance = chance_of(seed)
        house = good_house(chance, **more)
        if max(map(tests_many, house[0])) <= 500:
            yield chance, house


def assert_guarded(test, calls):
    """Each call of a house is guarded: by TooMany(500), then by Parted, whatever else is passed in."""
    for call in calls:
        with test.assertRaises(TooMany) as caught:
            call(MORE_HOUSE)
        test.assertEqual(caught.exception.most, 500)
        bad_too = ((PICK,) + MORE_HOUSE[0][1:], ((0, 1, COPY, ZERO),) + MORE_HOUSE[1][1:])
        with test.assertRaises(TooMany):
            call(bad_too)
        for house in (ROAD, UNLIKE, TURNING):
            with test.assertRaises(Parted) as caught:
                call(house)
            test.assertEqual((caught.exception.worth, caught.exception.way, caught.exception.other), parted_ways(house))


class Homes(unittest.TestCase):
    def test_passes(self):
        self.assertEqual([passes(CHAIN, 0, (0,), 0), passes(CHAIN, 0, (1,), 0)], [True, False])
        self.assertEqual([passes(CHAIN, 1, (1,), 0), passes(CHAIN, 1, (1,), 1), passes(CHAIN, 2, (1,), 1)], [False, True, True])
        self.assertEqual([passes(CARDS, 0, ("x", ("a",)), 0), passes(CARDS, 0, ("x", ("a", "b")), 0)], [True, False])
        self.assertIs(passes(CARDS, 1, ("", ("a",)), 0), True)
        constant = ((PICK,) * 2, ((0, 1, ONE, ZERO),))
        self.assertEqual([passes(constant, spot, (value,), 0) for spot in (0, 1) for value in (0, 1)],
                         [True, False, False, True])

    def test_homes(self):
        self.assertEqual(homes_of(CHAIN, 2, (0,)), [(0, (0,)), (1, (0,)), (2, (0,))])
        self.assertEqual(homes_of(CHAIN, 0, (1,)), [(0, (1,))])
        self.assertEqual(homes_of(CHAIN, 2, (1,)), [(1, (1,)), (2, (1,))])
        self.assertEqual(homes_of(ALONE, 0, (1,)), [(0, (1,))])
        self.assertEqual(homes_of(CARDS, 0, ("x", ("a",))), [(0, ("x", ("a",))), (1, ("x", ("a",)))])
        self.assertEqual(homes_of(CARDS, 1, ("x", None)), [(0, ("x", ())), (1, ("x", None))])
        self.assertEqual(homes_of(CARDS, 0, ("x", ("a", "b"))), [(0, ("x", ("a", "b")))])
        self.assertEqual(homes_of(((PICK,) * 2, ((0, 1, FLIP, FLIP),)), 1, (0,)), [(0, (1,)), (1, (0,))])

    def test_over_some_roads_only(self):
        # in a ring of three forms, the worth that two roads pass is at home in all three forms
        house = ((PICK,) * 3, ((0, 1, COPY, COPY), (0, 2, ZERO, ZERO), (1, 2, COPY, COPY)))
        self.assertEqual(homes_of(house, 2, (1,)), [(spot, (1,)) for spot in range(3)])
        self.assertEqual([passes(house, 0, (1,), 1), passes(house, 2, (1,), 1), passes(house, 2, (1,), 2)], [False, False, True])
        form = (("a", TWO), ("b", TWO))
        left = (("say", 0), ("copy", 1))
        plain = (("copy", 0), ("copy", 1))
        house = ((form,) * 3, ((0, 1, plain, plain), (0, 2, left, left), (1, 2, left, left)))
        self.assertEqual(homes_of(house, 1, (1, 0)), [(0, (1, 0)), (1, (1, 0))])
        self.assertEqual(homes_of(house, 2, (1, 0)), [(2, (1, 0))])
        self.assertEqual(homes_of(house, 2, (0, 1)), [(spot, (0, 1)) for spot in range(3)])

    def test_by_chance(self):
        sizes = []
        for chance, house in any_good_houses(0, 80):
            spot = chance.randrange(len(house[0]))
            for worth in [any_worth(chance, house[0][spot])] + [told_led(house, (spot,), any_worth(chance, house[0][spot]))]:
                wanted = told_homes(house, spot, worth)
                found = homes_of(house, spot, worth)
                self.assertEqual(found, wanted)
                self.assertEqual(len({home for home, _ in found}), len(found))
                for home, its_worth in found:
                    self.assertEqual(homes_of(house, home, its_worth), found)
                sizes.append(len(found))
                for index, road in enumerate(house[1]):
                    for end in set(road[:2]) & {spot}:
                        self.assertIs(passes(house, end, worth, index), told_passes(house, end, worth, index))
        self.assertGreater(sum(size > 1 for size in sizes), 50)
        self.assertGreater(sum(size == 1 for size in sizes), 20)

    def test_small_houses(self):
        good = 0
        for seed in range(200):
            chance = chance_of(seed)
            house = any_small_house(chance)
            if max(map(tests_many, house[0])) <= 40 and parted_ways(house) is None:
                spot = chance.randrange(len(house[0]))
                worth = any_worth(chance, house[0][spot])
                self.assertEqual(homes_of(house, spot, worth), told_homes(house, spot, worth))
                good += 1
        self.assertGreater(good, 50)

    def test_nine_roads(self):
        form = (("a", ("pick", 4)), ("b", ("pick", 4)), ("c", ("maybe", ("pick", 3))))
        lose = [(("say", 0), ("copy", 1), ("copy", 2)), (("copy", 0), ("say", 0), ("copy", 2)),
                (("copy", 0), ("copy", 1), ("say", None))]
        house = alike_house(form, SIX_NINE, lose * 3)
        self.assertEqual(homes_of(house, 0, (1, 2, (1,))), [(0, (1, 2, (1,)))])
        self.assertEqual(homes_of(house, 0, (0, 2, (1,))), told_homes(house, 0, (0, 2, (1,))))
        long = ((PICK, PICK), ((0, 1, (chain(60),), (chain(60),)),))
        self.assertEqual(homes_of(long, 0, (1,)), [(0, (1,)), (1, (0,))])
        self.assertIs(is_lossless(long, (0, 1)), True)

    def test_words_in_tests_are_no_others(self):
        pair = (("v", WORD), ("w", WORD))
        house = ((pair, PICK), ((0, 1, ZERO, (("say", "a"), ("say", "b"))),))
        self.assertEqual(homes_of(house, 0, ("a", "b")), [(0, ("a", "b")), (1, (0,))])
        self.assertEqual(homes_of(house, 0, ("~0", "~1")), [(0, ("~0", "~1"))])
        self.assertEqual(homes_of(house, 1, (1,)), [(1, (1,))])

    def test_errors(self):
        assert_guarded(self, (lambda house: passes(house, 0, (1,), 0), lambda house: homes_of(house, 1, (0,))))
        self.assertEqual(homes_of(JUST_HOUSE, 0, (0,)), [(0, (0,)), (1, (None, None, None, 0, ""))])


if __name__ == "__main__":
    unittest.main()
