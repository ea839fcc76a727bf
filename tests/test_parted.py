"""[27] Parted ways."""

import unittest

from goods import COPY, FORK, PICK, ZERO, any_small_house, told_led
from samples import any_way, any_worth, chance_of, things
from test_faults import ALONE, BACK_FLIPS, OTHER_SIDE, ROAD, TURNING
from test_returns import JUST_HOUSE, MORE_HOUSE, UNLIKE
from wherebeen.errors import TooMany
from wherebeen.faults import faults_of, first_fault
from wherebeen.parted import is_parted, parted_by, parted_ways
from wherebeen.probes import tests_many
from wherebeen.ways import gone_of


class PartedBy(unittest.TestCase):
    def test_each_sort(self):
        self.assertEqual(parted_by(ROAD, ("road", 0, 0, (1,))), ((1,), (0, 1), (0, 1, 0, 1)))
        self.assertEqual(parted_by(OTHER_SIDE, ("road", 0, 1, (1,))), ((1,), (1, 0), (1, 0, 1, 0)))
        self.assertEqual(parted_by(UNLIKE, ("returns", (0, 1), (0, 2), (1,))), ((1,), (0, 1, 0, 2, 0), (0, 2, 0, 1, 0)))
        house = ((PICK,) * 3, ((0, 1, COPY, COPY), (0, 2, COPY, (("say", 1),)), (1, 2, ZERO, ZERO)))
        fault = ("returns", (0, 1, 2), (0, 2), (0,))
        self.assertIn(fault, faults_of(house))
        self.assertEqual(parted_by(house, fault), ((0,), (0, 1, 2, 1, 0, 2, 0), (0, 2, 0, 1, 2, 1, 0)))
        self.assertEqual(parted_by(TURNING, ("ring", (1, 0, 2, 1), (1,))), ((1,), (1, 0, 2, 1), (1, 0, 2, 1, 2, 0, 1)))

    def test_parted_ways(self):
        self.assertIsNone(parted_ways(FORK))
        self.assertIsNone(parted_ways(ALONE))
        self.assertEqual(parted_ways(ROAD), ((1,), (0, 1), (0, 1, 0, 1)))
        self.assertEqual(parted_ways(BACK_FLIPS), ((0,), (0, 1), (0, 1, 0, 1)))
        self.assertEqual(parted_ways(TURNING), ((0,), (0, 1, 2, 0), (0, 1, 2, 0, 2, 1, 0)))

    def test_by_chance(self):
        parted = 0
        for seed in range(400):
            house = any_small_house(chance_of(seed))
            if max(map(tests_many, house[0])) > 40:
                continue
            for fault in faults_of(house):
                thing = parted_by(house, fault)
                self.assertEqual([len(thing), thing[0]], [3, fault[-1]])
                self.assertIs(is_parted(house, thing), True)
                self.assertIs(is_parted(house, (thing[0], thing[2], thing[1])), True)
                parted += 1
            fault = first_fault(house)
            self.assertEqual(parted_ways(house), None if fault is None else parted_by(house, fault))
        self.assertGreater(parted, 200)


class IsParted(unittest.TestCase):
    def test_ways_that_part(self):
        self.assertIs(is_parted(ROAD, ((1,), (0, 1, 0), (0, 1))), False)
        self.assertIs(is_parted(ROAD, ((1,), (0, 1, 0, 1), (0, 1))), True)
        self.assertIs(is_parted(ROAD, ((1,), (0, 1, 0, 1, 0, 1, 0, 1), (0, 1))), True)
        self.assertIs(is_parted(ROAD, ((0,), (0, 1, 0, 1), (0, 1))), False)
        self.assertIs(is_parted(ROAD, ((1,), (1, 0, 1, 0), (1, 0))), False)

    def test_other_ends(self):
        house = ((PICK,) * 3, ((0, 1, COPY, (("say", 1),)), (1, 2, COPY, ZERO)))
        self.assertIs(is_parted(house, ((1,), (0, 1, 2, 1), (0, 1, 0, 1, 2, 1))), False)
        self.assertIs(is_parted(house, ((0,), (0, 1, 2, 1), (0, 1, 2, 1, 0, 1))), True)
        for way, other in (((0, 1, 2, 1), (0, 1, 2)), ((0, 1, 2, 1), (1, 0, 1, 2, 1)), ((0, 1, 2, 1, 0), (1, 0, 1, 2, 1, 0)),
                           ((0, 1, 2, 1, 0), (0, 1, 2, 1, 0, 1)), ((2, 1, 0, 1), (0, 1, 2, 1))):
            for worth in ((0,), (1,)):
                self.assertIs(is_parted(house, (worth, way, other)), False, (way, other))

    def test_other_roads(self):
        # unlike outcomes, but the roads gone are not the same
        for way, other in (((0, 1, 0), (0, 2, 0)), ((0, 1, 0), (0, 1, 0, 2, 0)), ((0,), (0, 1, 0)), ((0, 2, 0), (0,))):
            worth = (0,) if told_led(UNLIKE, way, (0,)) != told_led(UNLIKE, other, (0,)) else (1,)
            self.assertNotEqual(told_led(UNLIKE, way, worth), told_led(UNLIKE, other, worth))
            self.assertIs(is_parted(UNLIKE, (worth, way, other)), False)
        self.assertIs(is_parted(UNLIKE, ((0,), (0, 1, 0, 2, 0), (0, 2, 0, 2, 0, 1, 0))), True)

    def test_long_ways(self):
        way, other = (0, 1, 0, 2) * 300 + (0,), (0, 2, 0, 1) * 300 + (0,)
        self.assertEqual(len(way), 1201)
        self.assertIs(is_parted(UNLIKE, ((1,), way, other)), True)
        self.assertIs(is_parted(UNLIKE, ((1,), way, way[:-4])), False)
        self.assertIs(is_parted(UNLIKE, ((1,), way, other[:-1])), False)
        self.assertIs(is_parted(UNLIKE, ((1,), way, other + (1, 1))), False)
        self.assertIs(is_parted(ROAD, ((1,), (0, 1), (0, 1) * 600)), True)
        self.assertIs(is_parted(ROAD, ((1,), (0, 1) * 700, (0, 1) * 600)), False)

    def test_any_value(self):
        right = ((1,), (0, 1), (0, 1, 0, 1))
        for index in range(3):
            for thing in things() + [(0, 1, 0), (0, True), (2,), (False, 1)]:
                self.assertIs(is_parted(ROAD, right[:index] + (thing,) + right[index + 1:]), False, thing)
            self.assertIs(is_parted(ROAD, right[:index] + (list(right[index]),) + right[index + 1:]), False)
            self.assertIs(is_parted(ROAD, right[:index] + right[index + 1:]), False)
        for thing in things() + [list(right), right + ((0,),), right[0], right[1], (right,), "abc", {0: right}, ROAD,
                                 ((1,), [0, 1], (0, 1, 0, 1)), ((1,), (), ()), ("road", 0, 0, (1,))]:
            for house in (ROAD, UNLIKE, ALONE):
                self.assertIs(is_parted(house, thing), False, thing)

    def test_by_chance(self):
        rows = []
        for seed in range(500):
            chance = chance_of(seed)
            house = any_small_house(chance)
            if max(map(tests_many, house[0])) > 40:
                continue
            spot = chance.randrange(len(house[0]))
            worth = any_worth(chance, house[0][spot])
            ways = [any_way(chance, house, spot, 7) for _ in range(6)]
            for way in ways:
                for other in ways:
                    alike = way[-1] == other[-1] and gone_of(house, way) == gone_of(house, other)
                    wanted = alike and told_led(house, way, worth) != told_led(house, other, worth)
                    self.assertIs(is_parted(house, (worth, way, other)), wanted)
                    rows.append(wanted)
        self.assertGreater(min(rows.count(True), rows.count(False)), 20)

    def test_500(self):
        self.assertIs(is_parted(JUST_HOUSE, None), False)
        self.assertIsNone(parted_ways(JUST_HOUSE))
        for call in (lambda: is_parted(MORE_HOUSE, None), lambda: is_parted(MORE_HOUSE, ((0,), (0, 1), (0, 1, 0, 1))),
                     lambda: parted_by(MORE_HOUSE, ("road", 0, 0, (1,))), lambda: parted_ways(MORE_HOUSE)):
            with self.assertRaises(TooMany) as caught:
                call()
            self.assertEqual(caught.exception.most, 500)


if __name__ == "__main__":
    unittest.main()
