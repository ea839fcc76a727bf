"""[26] Faults, and what a good house is by them; [6] where been."""

import unittest

from goods import (COPY, FLIP, FORK, ONE, PICK, SIX_NINE, TWO, ZERO, alike_house, all_copied, any_small_house, good_house,
                   told_good, told_led, told_rings, told_simple_ways, told_there_and_back)
from samples import WORD, any_worth, chance_of, things
from test_returns import CARDS, JUST_HOUSE, MORE_HOUSE, UNLIKE
from test_turns import chain
from wherebeen.errors import TooMany
from wherebeen.faults import faults_of, first_fault, is_fault, is_good
from wherebeen.probes import tests_many, tests_of

ROAD = ((PICK, PICK), ((0, 1, COPY, ZERO),))
OTHER_SIDE = ((PICK, PICK), ((0, 1, ZERO, COPY),))
BACK_FLIPS = ((PICK, PICK), ((0, 1, COPY, FLIP),))
TURNING = ((PICK,) * 3, ((0, 1, COPY, COPY), (0, 2, FLIP, FLIP), (1, 2, COPY, COPY)))
ALONE = ((PICK,), ())


def told_faults(house):
    """All faults with their first tests, found as the words of [26] say."""
    found = []
    ways = told_simple_ways(house)
    pairs = [("road", index, side) for index in range(len(house[1])) for side in (0, 1)]
    pairs += [("returns", way, other) for way in ways for other in ways if way[0] == other[0] and way < other]
    pairs += [("ring", ring) for ring in told_rings(house)]
    for head in pairs:
        one, other = told_ways(house, head)
        unlike = [test for test in tests_of(house[0][one[0]]) if told_led(house, one, test) != told_led(house, other, test)]
        found += [head + (unlike[0],)] if unlike else []
    return found


def told_ways(house, head):
    if head[0] == "road":
        way = house[1][head[1]][:2][::1 - 2 * head[2]]
        return way, way + way
    if head[0] == "ring":
        return head[1], told_there_and_back(head[1])
    one, other = told_there_and_back(head[1]), told_there_and_back(head[2])
    return one + other[1:], other + one[1:]


class Faults(unittest.TestCase):
    def test_good_houses(self):
        form = (("a", TWO), ("w", WORD), ("m", ("maybe", TWO)))
        left = (("say", 0), ("copy", 1), ("copy", 2))
        for house in (ALONE, FORK, CARDS, ((PICK, PICK), ((0, 1, FLIP, FLIP),)),
                      alike_house(form, SIX_NINE, [left, all_copied(form)] * 5)):
            self.assertIsNone(first_fault(house))
            self.assertEqual(faults_of(house), [])
            self.assertIs(is_good(house), True)

    def test_roads(self):
        self.assertEqual(first_fault(ROAD), ("road", 0, 0, (1,)))
        # there, back and there gives 0, as there; back, there and back gives 0, where back leaves 1 as it is
        self.assertEqual(faults_of(OTHER_SIDE), [("road", 0, 1, (1,))])
        self.assertEqual(faults_of(BACK_FLIPS), [("road", 0, 0, (0,)), ("road", 0, 1, (0,))])
        house = ((PICK,) * 3, ((0, 1, FLIP, FLIP), (0, 2, COPY, ONE)))
        self.assertEqual(faults_of(house), [("road", 1, 0, (0,))])
        self.assertIs(is_good(house), False)

    def test_returns(self):
        self.assertEqual(faults_of(UNLIKE), [("returns", (0, 1), (0, 2), (0,))])
        chain_house = ((PICK,) * 3, ((0, 1, COPY, COPY), (0, 2, ONE, ONE), (1, 2, ZERO, ZERO)))
        found = faults_of(chain_house)
        self.assertEqual(found, told_faults(chain_house))
        self.assertEqual(found[0], ("returns", (0, 1, 2), (0, 2), (0,)))
        self.assertEqual({fault[0] for fault in found}, {"returns", "ring"})

    def test_rings(self):
        self.assertEqual(faults_of(TURNING), [("ring", ring, (0,)) for ring in (
            (0, 1, 2, 0), (0, 2, 1, 0), (1, 0, 2, 1), (1, 2, 0, 1), (2, 0, 1, 2), (2, 1, 0, 2))])
        self.assertEqual(first_fault(TURNING), ("ring", (0, 1, 2, 0), (0,)))
        form = (("w", WORD), ("v", WORD), ("p", ("pick", 3)))
        swap = (("when", ("table", ("copy", 2), (0, 1, 0)), (("copy", 0), ("copy", 1))),
                ("when", ("table", ("copy", 2), (0, 1, 0)), (("copy", 1), ("copy", 0))), ("copy", 2))
        plain = all_copied(form)
        house = ((form,) * 3, ((0, 1, plain, plain), (0, 2, swap, swap), (1, 2, plain, plain)))
        self.assertEqual(first_fault(house), ("ring", (0, 1, 2, 0), ("~0", "~1", 1)))

    def test_order_of_sorts(self):
        house = ((PICK,) * 3, ((0, 1, COPY, COPY), (0, 2, FLIP, COPY), (1, 2, COPY, ZERO)))
        found = faults_of(house)
        self.assertEqual(found, told_faults(house))
        self.assertEqual(sorted({fault[0] for fault in found}), ["returns", "ring", "road"])
        self.assertEqual(found[0], ("road", 1, 0, (0,)))
        self.assertEqual([fault[0] for fault in found], sorted([fault[0] for fault in found], key=["road", "returns", "ring"].index))

    def test_by_chance(self):
        sorts = []
        for seed in range(500):
            chance = chance_of(seed)
            house = any_small_house(chance)
            if max(map(tests_many, house[0])) > 40:
                continue
            wanted = told_faults(house)
            self.assertEqual(faults_of(house), wanted)
            self.assertEqual(first_fault(house), wanted[0] if wanted else None)
            self.assertIs(is_good(house), told_good(house))
            self.assertIs(is_good(house), not wanted)
            sorts += {fault[0] for fault in wanted} or [None]
        self.assertGreater(min(sorts.count(sort) for sort in ("road", "returns", "ring", None)), 20)

    def test_made_good(self):
        for seed in range(60):
            house = good_house(chance_of(seed))
            if max(map(tests_many, house[0])) <= 500:
                self.assertIs(is_good(house), True)


class IsFault(unittest.TestCase):
    def test_other_worths(self):
        self.assertIs(is_fault(ROAD, ("road", 0, 0, (1,))), True)
        self.assertIs(is_fault(ROAD, ("road", 0, 0, (0,))), False)
        self.assertIs(is_fault(BACK_FLIPS, ("road", 0, 1, (1,))), True)
        self.assertIs(is_fault(BACK_FLIPS, ("road", 0, 1, (0,))), True)
        self.assertIs(is_fault(UNLIKE, ("returns", (0, 1), (0, 2), (1,))), True)
        self.assertIs(is_fault(TURNING, ("ring", (1, 2, 0, 1), (1,))), True)
        tags = (("t", ("row", WORD)),)
        house = ((tags, tags), ((0, 1, COPY, (("rowof", ("first", 0)),)),))
        self.assertEqual(first_fault(house), ("road", 0, 0, (("~0", "~0~"),)))
        for worth, wanted in (((("x", "y"),), True), ((("x",) * 8,), True), ((("x",),), False), (((),), False)):
            self.assertIs(is_fault(house, ("road", 0, 0, worth)), wanted)

    def test_all_that_are_told(self):
        for house in (ROAD, OTHER_SIDE, BACK_FLIPS, UNLIKE, TURNING):
            for fault in faults_of(house):
                self.assertIs(is_fault(house, fault), True)
                for index in range(len(fault)):
                    without = fault[:index] + fault[index + 1:]
                    self.assertIs(is_fault(house, without), False)
                    for thing in things() + [("x", 1), ((0, 1),), (0,), (5,), (2,), ((1,),)]:
                        if not isinstance(thing, tuple) or thing[:1] not in ((0,), (1,)):
                            other = fault[:index] + (thing,) + fault[index + 1:]
                            self.assertIs(is_fault(house, other), False, other)
                self.assertIs(is_fault(house, fault + fault[-1:]), False)
                self.assertIs(is_fault(house, list(fault)), False)
                self.assertIs(is_fault(house, fault[:-1] + (list(fault[-1]),)), False)
                self.assertIs(is_fault(house, fault[:1][0]), False)

    def test_truths_for_integers(self):
        two = ((PICK,) * 3, ((0, 1, COPY, ZERO), (1, 2, COPY, ZERO)))
        self.assertIs(is_fault(two, ("road", 1, 0, (1,))), True)
        for thing in (("road", True, 0, (1,)), ("road", 1, False, (1,)), ("road", 1, 0, (True,)), ("road", -1, 0, (1,)),
                      ("road", 2, 0, (1,)), ("road", 1, 2, (1,)), ("road", 1, -1, (1,)), ("road", 1, 1, (1,)),
                      ("returns", (0, True), (0, 2), (1,)), ("road", 1, 0, (2,)), ("road", 1, 0, 1), ("road", 1, 0, ())):
            self.assertIs(is_fault(two, thing), False, thing)
        self.assertIs(is_fault(UNLIKE, ("returns", (0, 1), (0, 2), (False,))), False)
        self.assertIs(is_fault(UNLIKE, ("returns", (False, 1), (0, 2), (1,))), False)
        self.assertIs(is_fault(TURNING, ("ring", (0, True, 2, 0), (1,))), False)

    def test_ways_that_are_none(self):
        for way, other in (((0, 2), (0, 1)), ((0, 1), (0, 1)), ((0, 1, 0), (0, 2)), ((0,), (0, 1)), ((0,), (0, 2)),
                           ((0, 1), (0, 2, 0)), ((0, 1), (1, 0, 2)), ([0, 1], (0, 2)), ((0, 1), [0, 2]), ((0, 1), (0, 3)),
                           ((0, 1), (0, 2, 1)), ((), (0, 2)), ((), ()), ((1, 0), (1, 0, 2)), ((0, 1), None)):
            self.assertIs(is_fault(UNLIKE, ("returns", way, other, (0,))), False, (way, other))
        # with a longer way of the same roads the returns do not change places either, but it is not simple
        self.assertNotEqual(told_led(UNLIKE, (0, 1, 0, 1, 0, 2, 0), (0,)), told_led(UNLIKE, (0, 2, 0, 1, 0, 1, 0), (0,)))
        self.assertIs(is_fault(UNLIKE, ("returns", (0, 1, 0, 1), (0, 2), (0,))), False)

    def test_rings_that_are_none(self):
        for ring in ((0, 1, 2), (0, 1, 0), (0, 1, 2, 1), (0, 1, 2, 0, 1, 2, 0), (0, 1, 0, 2, 1, 0), (0,), (), [0, 1, 2, 0],
                     (0, 1, 2, 0, 0), (0, 1, 2, 3), (0, 2, 1, 2, 0), ((0,), 1, 2, (0,)), "0120", (0, 1, 2, 1, 0)):
            self.assertIs(is_fault(TURNING, ("ring", ring, (0,))), False, ring)
        # each of these would come out unlike
        self.assertNotEqual(told_led(BACK_FLIPS, (0, 1, 0), (0,)), told_led(BACK_FLIPS, (0, 1, 0, 1, 0), (0,)))
        self.assertIs(is_fault(BACK_FLIPS, ("ring", (0, 1, 0), (0,))), False)
        self.assertNotEqual(told_led(UNLIKE, (0, 1, 0, 2), (0,)), told_led(UNLIKE, (0, 1, 0, 2, 0, 1, 0), (0,)))
        self.assertIs(is_fault(UNLIKE, ("ring", (0, 1, 0, 2), (0,))), False)

    def test_any_values(self):
        for thing in things() + [("road",), ("ring", (0, 1, 2, 0)), ("road", 0, 0), ("returns", (0, 1), (0, 2)), "road",
                                 ("ring", (0, 1, 2, 0), (0,), (0,)), ("lost", 0, 0, (1,)), (0, 0, 0, (1,)), TURNING]:
            for house in (ROAD, UNLIKE, TURNING, ALONE):
                self.assertIs(is_fault(house, thing), False, thing)

    def test_lacking_or_too_much(self):
        pair = (("a", ("pick", 3)), ("b", ("pick", 3)))
        zeros, ones = (("say", 0),) * 2, (("say", 1),) * 2
        house = alike_house(pair, [(0, 1), (0, 2)], [zeros, ones], 3)
        self.assertIs(is_fault(house, ("returns", (0, 1), (0, 2), (0, 2))), True)
        # the latter way would be a worth, too
        self.assertIs(is_fault(house, ("returns", (0, 1), (0, 2))), False)
        for thing in (("lost", (0, 1), (0, 2), (0, 2)), ("ring", (0, 1), (0, 2), (0, 2)), ("road", (0, 1), (0, 2), (0, 2)),
                      ("returns", (0, 1), (0, 2), (0, 2), (0, 2)), ("returns", (0, 2), (0, 1), (0, 2)), (0, (0, 1), (0, 2), (0, 2))):
            self.assertIs(is_fault(house, thing), False, thing)

    def test_by_chance(self):
        rows = []
        for seed in range(300):
            chance = chance_of(seed)
            house = any_small_house(chance)
            if max(map(tests_many, house[0])) > 40 or is_good(house):
                continue
            for fault in faults_of(house):
                self.assertIs(is_fault(house, fault), True)
                one, other = told_ways(house, fault[:-1])
                worth = any_worth(chance, house[0][one[0]])
                wanted = told_led(house, one, worth) != told_led(house, other, worth)
                self.assertIs(is_fault(house, fault[:-1] + (worth,)), wanted)
                rows.append(wanted)
        self.assertGreater(min(rows.count(True), rows.count(False)), 50)


class Bounds(unittest.TestCase):
    def test_500(self):
        self.assertEqual(first_fault(JUST_HOUSE), None)
        self.assertEqual([faults_of(JUST_HOUSE), is_good(JUST_HOUSE), is_fault(JUST_HOUSE, None)], [[], True, False])
        for call in (first_fault, faults_of, is_good, lambda house: is_fault(house, None),
                     lambda house: is_fault(house, ("road", 0, 0, (0,)))):
            with self.assertRaises(TooMany) as caught:
                call(MORE_HOUSE)
            self.assertEqual(caught.exception.most, 500)

    def test_turns_of_many_parts(self):
        form = (("a", ("pick", 4)), ("b", ("pick", 4)), ("c", ("pick", 4)))
        fat = tuple(self.long(at) for at in range(3))
        house = alike_house(form, SIX_NINE, [fat] * 9)
        self.assertIs(is_good(house), True)
        spoiled = house[1][:8] + (house[1][8][:3] + ((("say", 0),) + fat[1:],),)
        self.assertEqual(first_fault((house[0], spoiled)), ("road", 8, 0, (1, 0, 0)))
        self.assertGreater(len(faults_of((house[0], spoiled))), 20)

    def long(self, at):
        part = ("copy", at)
        for _ in range(58):
            part = ("table", part, (1, 0, 3, 2))
        return part

    def test_chain(self):
        house = ((PICK, PICK), ((0, 1, (chain(60),), (chain(60),)),))
        self.assertIs(is_good(house), True)


if __name__ == "__main__":
    unittest.main()
