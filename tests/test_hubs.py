"""[34] Hubs."""

import itertools
import unittest

from goods import (COPY, FINITE_KINDS, FLIP, ONE, PICK, SIX_NINE, TWO, ZERO, alike_house, any_small_house, good_house, told_led,
                   told_simple_ways)
from samples import WORD, chance_of, things
from test_faults import ALONE
from test_homes import CHAIN, any_good_houses, assert_guarded
from test_numbers import FIVES, JUST_2000, ONE_MORE, constant_star, exchanged, least_turn, paths_in
from wherebeen.errors import HasRing, NotFinite, Parted
from wherebeen.hubs import hub_of, hub_size, is_hub
from wherebeen.parted import parted_ways
from wherebeen.probes import tests_many
from wherebeen.ways import rings_of
from wherebeen.worths import all_worths, is_finite_form

TOLD = (3, ((0, 1), (0, 2), (0, 2)), ((0, 1, 0), (0, 0, 2), (0, 0, 2)))
TRIANGLE = ((PICK,) * 3, ((0, 1, COPY, COPY), (0, 2, COPY, COPY), (1, 2, COPY, COPY)))


def told_hub(house, thing):
    """Whether a tuple of numbers of the right sort is a hub, as the words of [7] and [34] say."""
    many, places, looks = thing
    right = all(look[look[at]] == look[at] for look in looks for at in range(many))
    right = right and all(one[two[at]] == two[one[at]] for one in looks for two in looks for at in range(many))
    right = right and all(set(look) == set(row) for look, row in zip(looks, places))
    for way in told_simple_ways(house):
        worths = all_worths(house[0][way[-1]])
        for place, worth in zip(places[way[0]], all_worths(house[0][way[0]])):
            right = right and places[way[-1]][worths.index(told_led(house, way, worth))] == looks[way[-1]][place]
    return right


def told_size(house):
    kept = 0
    for one, other, _, _ in house[1]:
        kept += sum(told_led(house, (one, other, one), worth) == worth for worth in all_worths(house[0][one]))
    return sum(len(all_worths(form)) for form in house[0]) - kept


def right_sort(house, thing):
    many, places, looks = thing
    if many < 1 or {len(look) for look in looks} != {many}:
        return False
    return all(0 <= number < many for row in places + looks for number in row) and all(len(set(row)) == len(row) for row in places)


class HubOf(unittest.TestCase):
    def test_small(self):
        for house, size in ((CHAIN, 3), (ALONE, 2), (((PICK,) * 2, ((0, 1, FLIP, FLIP),)), 2), (((PICK,) * 2, ((0, 1, ONE, ZERO),)), 3),
                            (((PICK,) * 3, ((0, 1, ZERO, ZERO), (0, 2, ZERO, ZERO))), 4)):
            hub = hub_of(house)
            self.assertEqual([hub[0], hub_size(house)], [size, size])
            self.assertTrue(right_sort(house, hub) and told_hub(house, hub))
            self.assertIs(is_hub(house, hub), True)
        self.assertIs(is_hub(CHAIN, TOLD), True)

    def test_as_few_as_can_be(self):
        one = (("q", ("pick", 1)),)
        none = (("say", 0),)
        for house in (((PICK, one), ((0, 1, none, ZERO),)), ((PICK, PICK), ((0, 1, ZERO, ZERO),)), ((PICK, PICK), ((0, 1, COPY, COPY),)),
                      ((one, PICK, one), ((0, 1, ONE, none), (1, 2, none, ONE)))):
            self.assertIsNone(parted_ways(house))
            sizes = []
            for many in range(1, hub_size(house) + 1):
                maps = list(itertools.product(range(many), repeat=many))
                rows = [list(itertools.permutations(range(many), len(all_worths(form)))) for form in house[0]]
                for places in itertools.product(*rows):
                    for looks in itertools.product(maps, repeat=len(house[0])):
                        thing = (many, places, looks)
                        self.assertIs(is_hub(house, thing), told_hub(house, thing))
                        sizes += [many] if told_hub(house, thing) else []
            self.assertEqual(min(sizes), hub_size(house))

    def test_by_chance(self):
        found = 0
        for chance, house in any_good_houses(0, 150, kinds=FINITE_KINDS, fields=2, tree=True):
            hub = hub_of(house)
            self.assertTrue(right_sort(house, hub) and told_hub(house, hub))
            self.assertIs(is_hub(house, hub), True)
            self.assertEqual([hub[0], hub_size(house)], [told_size(house)] * 2)
            found += len(house[0]) > 3
        self.assertGreater(found, 40)

    def test_small_houses(self):
        hubs = rings = 0
        for seed in range(400):
            house = any_small_house(chance_of(seed))
            if max(map(tests_many, house[0])) > 40 or parted_ways(house) is not None:
                continue
            if not all(is_finite_form(form) for form in house[0]):
                with self.assertRaises(NotFinite):
                    hub_of(house)
            elif rings_of(house):
                with self.assertRaises(HasRing):
                    hub_of(house)
                rings += 1
            else:
                self.assertTrue(told_hub(house, hub_of(house)))
                self.assertEqual(hub_size(house), told_size(house))
                hubs += 1
        self.assertGreater(min(hubs, rings), 4)

    def test_many(self):
        self.assertEqual([hub_size(JUST_2000), hub_size(ONE_MORE)], [1002, 1003])
        house = constant_star(FIVES, (FIVES,) * 5)
        hub = hub_of(house)
        self.assertEqual([hub[0], hub_size(house)], [2995] * 2)
        self.assertIs(is_hub(house, hub), True)
        self.assertIs(is_hub(house, exchanged(hub, (2, 3, hub[1][4][7]), hub[1][3][1])), False)


class IsHub(unittest.TestCase):
    def test_near_values(self):
        for house, hub in ((CHAIN, TOLD), (CHAIN, hub_of(CHAIN)), (ALONE, hub_of(ALONE)), (ALONE, (3, ((2, 0),), ((0, 2, 2),)))):
            self.assertIs(is_hub(house, hub), True)
            for path in paths_in(hub):
                part = hub
                for index in path:
                    part = part[index]
                for item in things() + [2.0, part, 0, 1, 2, 3]:
                    other = exchanged(hub, path, item)
                    if type(item) is type(part) and isinstance(item, int):
                        self.assertIs(is_hub(house, other), right_sort(house, other) and told_hub(house, other), other)
                    elif item != part or type(item) is not type(part):
                        self.assertIs(is_hub(house, other), False, other)
                if isinstance(part, tuple) and part:
                    for other in (part[1:], part + part[-1:], list(part)):
                        self.assertIs(is_hub(house, exchanged(hub, path, other)), False, other)
                if isinstance(part, int) and part < 2:
                    self.assertIs(is_hub(house, exchanged(hub, path, bool(part))), False)

    def test_any_value(self):
        for house in (CHAIN, ALONE):
            for thing in things() + [0, "abc", (1, (), ()), (2, ((0, 1),), ()), house, TOLD[:2], TOLD + ((),),
                                     (10 ** 30, ((0, 1),), ((0, 1),))]:
                self.assertIs(is_hub(house, thing), False, thing)

    def test_laws(self):
        self.assertIs(is_hub(ALONE, (2, ((0, 1),), ((0, 1),))), True)
        self.assertIs(is_hub(ALONE, (2, ((0, 1),), ((1, 0),))), False)
        self.assertIs(is_hub(ALONE, (3, ((0, 1),), ((0, 1, 2),))), False)
        self.assertIs(is_hub(ALONE, (3, ((0, 1),), ((0, 1, 1),))), True)
        self.assertIs(is_hub(ALONE, (3, ((0, 1),), ((0, 0, 1),))), False)
        # the looks of two forms do not change places in a number that is a place of neither
        pair = ((PICK,) * 2, ((0, 1, COPY, COPY),))
        self.assertIs(is_hub(pair, (3, ((0, 1),) * 2, ((0, 1, 0), (0, 1, 1)))), False)
        self.assertIs(is_hub(pair, (3, ((0, 1),) * 2, ((0, 1, 1), (0, 1, 1)))), True)
        self.assertIs(is_hub(pair, (2, ((0, 1), (1, 0)), ((0, 1), (0, 1)))), False)

    def test_ways_of_more_than_one_road(self):
        # each road alone is right, but not the way over both
        flips = ((PICK,) * 3, ((0, 1, FLIP, FLIP), (1, 2, FLIP, FLIP)))
        self.assertIs(is_hub(flips, (2, ((0, 1), (1, 0), (0, 1)), ((0, 1),) * 3)), True)
        self.assertIs(is_hub(flips, (2, ((0, 1), (1, 0), (1, 0)), ((0, 1),) * 3)), False)


class Errors(unittest.TestCase):
    calls = (hub_of, hub_size, lambda house: is_hub(house, None), lambda house: is_hub(house, TOLD))

    def assert_raises(self, house, error, **fields):
        for call in self.calls:
            with self.assertRaises(error) as caught:
                call(house)
            for name, value in fields.items():
                self.assertEqual(getattr(caught.exception, name), value)

    def test_guarded(self):
        assert_guarded(self, self.calls)

    def test_ring(self):
        self.assert_raises(TRIANGLE, HasRing, way=(0, 1, 2, 0))
        later = ((PICK,) * 5, tuple((one, other, COPY, COPY) for one, other in ((0, 4), (1, 2), (1, 4), (2, 3), (2, 4))))
        self.assert_raises(later, HasRing, way=(1, 2, 4, 1))
        self.assert_raises(alike_house(PICK, SIX_NINE, [ZERO] * 9), HasRing, way=(0, 3, 1, 4, 0))

    def test_order(self):
        word = (("w", WORD),)
        said = (("say", ""),)
        ring = ((PICK, PICK, word), ((0, 1, COPY, COPY), (0, 2, said, ZERO), (1, 2, said, ZERO)))
        self.assert_raises(ring, NotFinite, spot=2)
        bad = ((PICK, PICK, word), ((0, 1, COPY, COPY), (0, 2, said, ONE), (1, 2, said, ZERO)))
        self.assert_raises(bad, Parted, way=parted_ways(bad)[1])
        bad = ((PICK,) * 3, ((0, 1, COPY, COPY), (0, 2, FLIP, FLIP), (1, 2, COPY, COPY)))
        self.assert_raises(bad, Parted, worth=(0,), way=(0, 1, 2, 0), other=(0, 1, 2, 0, 2, 1, 0))
        self.assert_raises(((word,), ()), NotFinite, spot=0)
        self.assert_raises(((PICK, word), ((0, 1, said, ZERO),)), NotFinite, spot=1)
        self.assertEqual(least_turn(word), said)
        self.assertIsNone(parted_ways(good_house(chance_of(1), kinds=(TWO,), fields=1)))


if __name__ == "__main__":
    unittest.main()
