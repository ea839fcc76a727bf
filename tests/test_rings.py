"""[37] Least rings, still ones, and once round."""

import unittest

from goods import (COPY, FINITE_KINDS, FLIP, FORK, ONE, PICK, SIX_NINE, TWO, ZERO, alike_house, all_copied, any_pairs,
                   any_small_house, good_house, told_led, told_rings, told_there_and_back)
from samples import WORD, any_house, chance_of
from test_faults import ALONE, TURNING
from test_houses import RING, TREE
from test_returns import JUST_HOUSE, MORE_HOUSE
from wherebeen.errors import NotFinite, TooMany
from wherebeen.faults import faults_of, is_good
from wherebeen.probes import tests_many, tests_of
from wherebeen.rings import is_still, least_rings, round_of, still_rings
from wherebeen.worths import all_worths, is_finite_form

THREE = (("p", ("pick", 3)),)
TURN, FOLD = (("table", ("copy", 0), (1, 2, 0)),), (("table", ("copy", 0), (0, 0, 2)),)
WORDS = (("v", WORD), ("w", WORD))
SWAP = (("copy", 1), ("copy", 0))


def told_still(house, ring):
    back = told_there_and_back(ring)
    return all(told_led(house, ring, test) == told_led(house, back, test) for test in tests_of(house[0][ring[0]]))


def same_ring(one, other):
    spots = one[:-1]
    return any(other[:-1] in (spots[at:] + spots[:at], (spots[at:] + spots[:at])[::-1]) for at in range(len(spots)))


class LeastRings(unittest.TestCase):
    def test_each_once(self):
        self.assertEqual([least_rings(house) for house in (ALONE, TREE, FORK)], [[]] * 3)
        self.assertEqual(least_rings(TURNING), [(0, 1, 2, 0)])
        self.assertEqual(least_rings(RING), [(0, 1, 2, 3, 0)])
        later = alike_house(PICK, [(0, 3), (1, 2), (1, 4), (2, 3), (2, 4)], [COPY] * 5, 5)
        self.assertEqual(least_rings(later), [(1, 2, 4, 1)])
        four = alike_house(PICK, [(0, 1), (0, 2), (0, 3), (1, 2), (1, 3), (2, 3)], [COPY] * 6, 4)
        self.assertEqual(least_rings(four), [(0, 1, 2, 0), (0, 1, 2, 3, 0), (0, 1, 3, 0), (0, 1, 3, 2, 0), (0, 2, 1, 3, 0),
                                             (0, 2, 3, 0), (1, 2, 3, 1)])
        self.assertEqual(len(least_rings(alike_house(PICK, SIX_NINE, [COPY] * 9))), 15)
        least_rings(RING).clear()
        self.assertEqual(len(least_rings(RING)), 1)

    def test_by_chance(self):
        for seed in range(60):
            chance = chance_of(seed)
            many = chance.randint(1, 6)
            pairs = any_pairs(chance, many)
            house = alike_house(PICK, pairs, [COPY] * len(pairs), many)
            rings, least = told_rings(house), least_rings(house)
            self.assertEqual(least, sorted(least))
            for ring in rings:
                self.assertEqual(sum(same_ring(ring, other) for other in least), 1)
            for ring in least:
                self.assertIn(ring, rings)
                self.assertEqual(min(other for other in rings if same_ring(ring, other)), ring)

    def test_any_number_of_tests(self):
        house = ((PICK, PICK, MORE_HOUSE[0][2]), ((0, 1, COPY, COPY), (0, 2, MORE_HOUSE[1][1][2], ZERO),
                                                  (1, 2, MORE_HOUSE[1][1][2], ZERO)))
        self.assertEqual(least_rings(house), [(0, 1, 2, 0)])


class Still(unittest.TestCase):
    def test_still(self):
        self.assertIs(is_still(TURNING, (0, 1, 2, 0)), False)
        copies = ((PICK,) * 3, ((0, 1, COPY, COPY), (0, 2, FLIP, FLIP), (1, 2, FLIP, FLIP)))
        for ring in told_rings(copies):
            self.assertIs(is_still(copies, ring), True)
        self.assertEqual([still_rings(copies), still_rings(TURNING), still_rings(ALONE)], [[(0, 1, 2, 0)], [], []])
        words = alike_house(WORDS, [(0, 1), (0, 2), (1, 2)], [all_copied(WORDS), SWAP, all_copied(WORDS)], 3)
        self.assertIs(is_still(words, (1, 2, 0, 1)), False)
        self.assertEqual(still_rings(words), [])

    def test_from_one_form_alone(self):
        # begun at 0 all is lost at once; begun at 1 it is not before the worth was turned
        house = ((THREE,) * 3, ((0, 1, ZERO, ZERO), (0, 2, ZERO, TURN), (1, 2, COPY, COPY)))
        found = {ring: is_still(house, ring) for ring in told_rings(house)}
        self.assertEqual(found, {ring: told_still(house, ring) for ring in told_rings(house)})
        self.assertEqual(set(found.values()), {True, False})
        self.assertEqual(still_rings(house), [])

    def test_one_way_about_alone(self):
        house = ((PICK,) * 3, ((0, 1, COPY, COPY), (0, 2, COPY, COPY), (1, 2, COPY, ONE)))
        found = {ring: told_still(house, ring) for ring in told_rings(house)}
        self.assertEqual([ring for ring in found if not is_still(house, ring)], [ring for ring in found if not found[ring]])
        house = ((PICK,) * 3, ((0, 1, ZERO, COPY), (0, 2, COPY, FLIP), (1, 2, COPY, COPY)))
        found = {ring: told_still(house, ring) for ring in told_rings(house)}
        self.assertEqual({ring: is_still(house, ring) for ring in found}, found)

    def test_by_chance(self):
        rows, mixed = [], 0
        for seed in range(400):
            chance = chance_of(seed)
            house = any_small_house(chance) if seed % 3 else any_house(chance, (TWO, WORD), 2, 3, 2)
            if max(map(tests_many, house[0])) > 60:
                continue
            rings = told_rings(house)
            found = {ring: told_still(house, ring) for ring in rings}
            self.assertEqual({ring: is_still(house, ring) for ring in rings}, found)
            least = least_rings(house)
            wanted = [ring for ring in least if all(found[other] for other in rings if same_ring(ring, other))]
            self.assertEqual(still_rings(house), wanted)
            rows += found.values()
            mixed += any(ring not in wanted and found[ring] for ring in least)
            if not [fault for fault in faults_of(house) if fault[0] != "ring"]:
                self.assertIs(is_good(house), wanted == least)
        self.assertGreater(min(rows.count(True), rows.count(False)), 50)
        self.assertGreater(mixed, 2)

    def test_good_houses(self):
        for seed in range(30):
            house = good_house(chance_of(seed))
            if max(map(tests_many, house[0])) <= 500:
                self.assertEqual(still_rings(house), least_rings(house))


class RoundOf(unittest.TestCase):
    def test_each_becomes_itself(self):
        house = alike_house(PICK, [(0, 1), (0, 2), (1, 2)], [COPY, ZERO, COPY], 3)
        self.assertEqual(round_of(house, (0, 1, 2, 0)), {(0,): (0,)})
        self.assertEqual(round_of(alike_house(PICK, [(0, 1), (0, 2), (1, 2)], [COPY] * 3, 3), (2, 1, 0, 2)), {(0,): (0,), (1,): (1,)})

    def test_turned(self):
        house = ((THREE,) * 3, ((0, 1, TURN, (("table", ("copy", 0), (2, 0, 1)),)), (0, 2, COPY, COPY), (1, 2, COPY, COPY)))
        self.assertEqual(round_of(house, (0, 1, 2, 0)), {(0,): (1,), (1,): (2,), (2,): (0,)})
        self.assertEqual(round_of(house, (0, 2, 1, 0)), {(0,): (2,), (1,): (0,), (2,): (1,)})

    def test_few_are_left(self):
        house = ((THREE,) * 3, ((0, 1, FOLD, FOLD), (0, 2, COPY, COPY), (1, 2, COPY, COPY)))
        self.assertEqual(round_of(house, (0, 1, 2, 0)), {(0,): (0,), (2,): (2,)})
        house = ((THREE,) * 3, ((0, 1, TURN, TURN), (0, 2, COPY, COPY), (1, 2, COPY, COPY)))
        self.assertEqual(round_of(house, (0, 1, 2, 0)), {})

    def test_keys_in_order(self):
        form = (("m", ("maybe", TWO)), ("p", TWO))
        around = (("when", ("is", 0), (("some", ("say", 1)), ("copy", 0))), ("table", ("copy", 1), (1, 0)))
        plain = all_copied(form)
        house = ((form,) * 3, ((0, 1, around, plain), (0, 2, plain, plain), (1, 2, plain, plain)))
        self.assertEqual(round_of(house, (0, 1, 2, 0)), {})
        flip = (("copy", 0), around[1])
        house = ((form,) * 3, ((0, 1, flip, flip), (0, 2, plain, plain), (1, 2, plain, plain)))
        self.assertEqual(list(round_of(house, (0, 1, 2, 0)).items()), [
            ((None, 0), (None, 1)), ((None, 1), (None, 0)), (((0,), 0), ((0,), 1)), (((0,), 1), ((0,), 0)),
            (((1,), 0), ((1,), 1)), (((1,), 1), ((1,), 0))])

    def test_by_chance(self):
        some = none = 0
        for seed in range(200):
            chance = chance_of(seed)
            house = any_small_house(chance) if seed % 2 else any_house(chance, FINITE_KINDS, 2, 4, 2)
            if max(map(tests_many, house[0])) > 100:
                continue
            for ring in told_rings(house)[:8]:
                form = house[0][ring[0]]
                if not is_finite_form(form):
                    with self.assertRaises(NotFinite) as caught:
                        round_of(house, ring)
                    self.assertEqual(caught.exception.spot, ring[0])
                    none += 1
                    continue
                back = told_there_and_back(ring)
                wanted = [(worth, told_led(house, ring, worth)) for worth in all_worths(form) if told_led(house, back, worth) == worth]
                self.assertEqual(list(round_of(house, ring).items()), wanted)
                some += 1
                if is_still(house, ring):
                    self.assertTrue(all(one == other for one, other in wanted))
        self.assertGreater(min(some, none), 20)

    def test_not_finite_by_the_first_form_alone(self):
        said = (("say", ""),) * 2
        house = ((WORDS, PICK, PICK), ((0, 1, ZERO, said), (0, 2, ZERO, said), (1, 2, COPY, COPY)))
        self.assertEqual(round_of(house, (1, 0, 2, 1)), {(0,): (0,)})
        for ring in ((0, 1, 2, 0), (0, 2, 1, 0)):
            with self.assertRaises(NotFinite) as caught:
                round_of(house, ring)
            self.assertEqual(caught.exception.spot, 0)
        house = ((PICK, PICK, WORDS), ((0, 1, COPY, COPY), (0, 2, said, ZERO), (1, 2, said, ZERO)))
        with self.assertRaises(NotFinite) as caught:
            round_of(house, (2, 0, 1, 2))
        self.assertEqual(caught.exception.spot, 2)


class Bounds(unittest.TestCase):
    def test_500(self):
        more = MORE_HOUSE[0][2]
        said = MORE_HOUSE[1][1][2]
        house = ((PICK, PICK, PICK, more), ((0, 1, COPY, COPY), (0, 2, COPY, COPY), (1, 2, COPY, COPY), (2, 3, said, ZERO)))
        for call in (lambda: is_still(house, (0, 1, 2, 0)), lambda: still_rings(house), lambda: round_of(house, (0, 1, 2, 0))):
            with self.assertRaises(TooMany) as caught:
                call()
            self.assertEqual(caught.exception.most, 500)
        self.assertEqual(still_rings(JUST_HOUSE), [])
        just = JUST_HOUSE[0][1]
        said = JUST_HOUSE[1][0][2]
        house = ((just, PICK, PICK), ((0, 1, ZERO, said), (0, 2, ZERO, said), (1, 2, COPY, COPY)))
        self.assertIs(is_still(house, (0, 1, 2, 0)), True)
        house = ((more, PICK, PICK), ((0, 1, ZERO, MORE_HOUSE[1][1][2]), (0, 2, ZERO, MORE_HOUSE[1][1][2]), (1, 2, COPY, COPY)))
        with self.assertRaises(TooMany):
            round_of(house, (0, 1, 2, 0))


if __name__ == "__main__":
    unittest.main()
