"""[38] Roads that may be added."""

import itertools
import unittest

from goods import (COPY, FLIP, ONE, PICK, SIX_NINE, ZERO, alike_house, any_small_house, good_house, told_led, told_simple_ways,
                   told_there_and_back)
from samples import WORD, any_house, any_turn, chance_of
from test_faults import told_faults
from test_returns import JUST_HOUSE, MORE_HOUSE
from test_turns import chain
from wherebeen.errors import TooMany
from wherebeen.faults import first_fault, is_good
from wherebeen.forms import is_house, is_road
from wherebeen.houses import road_between, without_roads
from wherebeen.probes import tests_many, tests_of
from wherebeen.shortcuts import agrees, house_with, may_add, road_by
from wherebeen.turns import turn_parts, turned
from wherebeen.ways import turn_of

COPIES = alike_house(PICK, [(0, 1), (1, 2)], [COPY] * 2, 3)
NINE = alike_house(PICK, SIX_NINE, [COPY] * 9)
EIGHT = alike_house(PICK, SIX_NINE[:8], [COPY] * 8)


def free_pairs(house):
    spots = range(len(house[0]))
    return [pair for pair in itertools.combinations(spots, 2) if road_between(house, *pair) is None]


def any_road(chance, house, pair):
    one, other = pair
    return (one, other, any_turn(chance, house[0][one], house[0][other], 2), any_turn(chance, house[0][other], house[0][one], 2))


class HouseWith(unittest.TestCase):
    def test_put_among_the_others(self):
        house = alike_house(PICK, [(0, 1), (1, 3), (2, 3)], [COPY] * 3, 4)
        for pair, index in (((0, 2), 1), ((0, 3), 1), ((1, 2), 1)):
            road = pair + (FLIP, ZERO)
            found = house_with(house, road)
            self.assertTrue(is_house(found))
            self.assertEqual(found, (house[0], house[1][:index] + (road,) + house[1][index:]))
            self.assertEqual(without_roads(found, (index,)), house)
        self.assertEqual(house_with(COPIES, (0, 2, ONE, ZERO))[1], (COPIES[1][0], (0, 2, ONE, ZERO), COPIES[1][1]))

    def test_first_and_last(self):
        house = alike_house(PICK, [(0, 2), (1, 2)], [COPY] * 2, 3)
        self.assertEqual(house_with(house, (0, 1, FLIP, FLIP))[1][0], (0, 1, FLIP, FLIP))
        house = alike_house(PICK, [(0, 1), (0, 2)], [COPY] * 2, 3)
        self.assertEqual(house_with(house, (1, 2, FLIP, FLIP))[1][2], (1, 2, FLIP, FLIP))

    def test_nine_roads(self):
        self.assertEqual(len(house_with(EIGHT, (2, 5, ZERO, ZERO))[1]), 9)
        with self.assertRaises(TooMany) as caught:
            house_with(NINE, (0, 1, COPY, COPY))
        self.assertEqual(caught.exception.most, 9)

    def test_any_number_of_tests(self):
        house = (MORE_HOUSE[0], MORE_HOUSE[1])
        road = (0, 2) + MORE_HOUSE[1][1][2:]
        self.assertEqual(house_with(house, road)[1], (house[1][0], road, house[1][1]))

    def test_by_chance(self):
        for seed in range(60):
            chance = chance_of(seed)
            house = any_house(chance, most=2, deepest=2)
            for pair in free_pairs(house)[:3]:
                if len(house[1]) < 9:
                    found = house_with(house, any_road(chance, house, pair))
                    self.assertTrue(is_house(found))
                    self.assertEqual(len(found[1]), len(house[1]) + 1)


class MayAdd(unittest.TestCase):
    def test_may(self):
        self.assertIsNone(may_add(COPIES, (0, 2, COPY, COPY)))
        self.assertEqual(may_add(COPIES, (0, 2, FLIP, FLIP)), ("ring", (0, 1, 2, 0), (0,)))
        self.assertIsNone(may_add(COPIES, (0, 2, ZERO, ZERO)))
        self.assertIsNone(may_add(COPIES, (0, 2, ONE, ONE)))
        self.assertIsNone(may_add(EIGHT, (2, 5, COPY, COPY)))

    def test_first_fault_and_indexes_of_the_new_house(self):
        self.assertEqual(may_add(COPIES, (0, 2, COPY, ZERO)), ("road", 1, 0, (1,)))
        house = ((PICK,) * 3, ((0, 2, COPY, COPY), (1, 2, COPY, ZERO)))
        self.assertEqual(first_fault(house), ("road", 1, 0, (1,)))
        self.assertEqual(may_add(house, (0, 1, COPY, COPY)), ("road", 2, 0, (1,)))
        self.assertEqual(may_add(house, (0, 1, FLIP, COPY)), ("road", 0, 0, (0,)))
        zeros = alike_house(PICK, [(0, 1), (1, 2)], [ZERO, COPY], 3)
        self.assertEqual(may_add(zeros, (0, 2, ONE, ONE)), ("returns", (0, 1), (0, 2), (0,)))

    def test_nine_roads(self):
        with self.assertRaises(TooMany) as caught:
            may_add(NINE, (0, 1, COPY, COPY))
        self.assertEqual(caught.exception.most, 9)
        bad = (NINE[0], NINE[1][:8] + (NINE[1][8][:2] + (COPY, ZERO),))
        with self.assertRaises(TooMany) as caught:
            may_add(bad, (0, 1, COPY, COPY))
        self.assertEqual(caught.exception.most, 9)

    def test_few_goes_first(self):
        with self.assertRaises(TooMany) as caught:
            may_add(MORE_HOUSE, (0, 2) + MORE_HOUSE[1][1][2:])
        self.assertEqual(caught.exception.most, 500)
        more, said = MORE_HOUSE[0][2], MORE_HOUSE[1][1][2]
        roads = tuple(road if 5 not in road[:2] else road[:2] + (said, ZERO) for road in NINE[1])
        house = (NINE[0][:5] + (more,), roads)
        self.assertTrue(is_house(house))
        with self.assertRaises(TooMany) as caught:
            may_add(house, (0, 1, COPY, COPY))
        self.assertEqual(caught.exception.most, 500)
        with self.assertRaises(TooMany) as caught:
            house_with(house, (0, 1, COPY, COPY))
        self.assertEqual(caught.exception.most, 9)

    def test_by_chance(self):
        rows = []
        for seed in range(300):
            chance = chance_of(seed)
            house = any_small_house(chance)
            if max(map(tests_many, house[0])) > 30 or len(house[1]) > 8:
                continue
            for pair in free_pairs(house)[:2]:
                road = any_road(chance, house, pair)
                wanted = told_faults(house_with(house, road))
                self.assertEqual(may_add(house, road), wanted[0] if wanted else None)
                rows.append(not wanted)
        self.assertGreater(min(rows.count(True), rows.count(False)), 8)


class RoadBy(unittest.TestCase):
    def test_either_way_about(self):
        form = (("a", ("pick", 3)), ("w", WORD))
        up = (("table", ("copy", 0), (1, 2, 0)), ("copy", 1))
        cut = (("copy", 0), ("say", "cut"))
        house = ((form,) * 3, ((0, 1, up, cut), (1, 2, cut, up)))
        road = road_by(house, (0, 1, 2))
        self.assertEqual(road, (0, 2, turn_of(house, (0, 1, 2)), turn_of(house, (2, 1, 0))))
        self.assertEqual(road_by(house, (2, 1, 0)), road)
        self.assertEqual(turned(road[2], (1, "x")), (2, "cut"))
        self.assertEqual(turned(road[3], (1, "x")), (2, "cut"))

    def test_may_be_added(self):
        self.assertIsNone(may_add(COPIES, road_by(COPIES, (2, 1, 0))))
        tried = 0
        for seed in range(150):
            house = good_house(chance_of(seed), fields=2)
            if max(map(tests_many, house[0])) > 100 or len(house[1]) > 8:
                continue
            for way in told_simple_ways(house):
                if road_between(house, way[0], way[-1]) is None and tried < 150:
                    try:
                        road = road_by(house, way)
                    except TooMany:
                        continue
                    self.assertTrue(is_road(house[0], road))
                    self.assertIsNone(may_add(house, road))
                    self.assertEqual(road[:2], (min(way[0], way[-1]), max(way[0], way[-1])))
                    there = way if way[0] < way[-1] else way[::-1]
                    for test in tests_of(house[0][road[0]]):
                        self.assertEqual(turned(road[2], test), told_led(house, there, test))
                    for test in tests_of(house[0][road[1]]):
                        self.assertEqual(turned(road[3], test), told_led(house, there[::-1], test))
                    tried += 1
        self.assertGreater(tried, 100)

    def test_200(self):
        def house(there, back, later):
            return ((PICK,) * 3, ((0, 1, (chain(there),), (chain(back),)), (1, 2, (chain(later),), (chain(back),))))
        road = road_by(house(100, 1, 101), (0, 1, 2))
        self.assertEqual([turn_parts(road[2]), turn_parts(road[3])], [200, 1])
        self.assertEqual(road_by(house(1, 1, 200), (2, 1, 0))[:2], (0, 2))
        for parts in ((101, 1, 101), (1, 102, 1), (1, 101, 1), (201, 1, 1)):
            wanted = max(parts[0] + parts[2], 2 * parts[1]) - 1
            for way in ((0, 1, 2), (2, 1, 0)):
                if wanted <= 200:
                    self.assertIsNone(may_add(house(*parts), road_by(house(*parts), way)))
                else:
                    with self.assertRaises(TooMany) as caught:
                        road_by(house(*parts), way)
                    self.assertEqual(caught.exception.most, 200)

    def test_too_many_on_the_way(self):
        # the way there ends small, but on it there are more than 200 parts
        house = ((PICK,) * 4, ((0, 1, (chain(150),), COPY), (1, 2, (chain(60),), COPY), (2, 3, ZERO, COPY)))
        for way in ((0, 1, 2, 3), (3, 2, 1, 0)):
            with self.assertRaises(TooMany):
                road_by(house, way)

    def test_any_number_of_tests(self):
        road = road_by(MORE_HOUSE, (0, 1, 2))
        self.assertEqual(road, (0, 2) + MORE_HOUSE[1][1][2:])


class Agrees(unittest.TestCase):
    def test_agrees(self):
        for way in ((0, 1, 2), (2, 1, 0)):
            self.assertIs(agrees(COPIES, (0, 2, COPY, COPY), way), True)
            self.assertIs(agrees(COPIES, (0, 2, FLIP, FLIP), way), False)
            self.assertIs(agrees(COPIES, (0, 2, ZERO, ZERO), way), True)
        # behind both returns there is only 0, which the way takes to 0 and the road to 1
        self.assertIs(agrees(COPIES, (0, 2, ONE, ZERO), (0, 1, 2)), False)
        self.assertIs(agrees(COPIES, (0, 2, ONE, ONE), (0, 1, 2)), True)

    def test_one_way_about_alone(self):
        house = ((PICK,) * 3, ((0, 1, COPY, ONE), (1, 2, COPY, ONE)))
        road = (0, 2, FLIP, ONE)
        found = [agrees(house, road, way) for way in ((0, 1, 2), (2, 1, 0))]
        self.assertEqual(found, [self.told(house, road, way) for way in ((0, 1, 2), (2, 1, 0))])
        self.assertEqual(sorted(found), [False, True])

    def told(self, house, road, way):
        there, back = (road[2], road[3]) if road[0] == way[0] else (road[3], road[2])
        worths = [told_led(house, told_there_and_back(way), test) for test in tests_of(house[0][way[0]])]
        worths = [turned(back, turned(there, worth)) for worth in worths]
        return all(told_led(house, way, worth) == turned(there, worth) for worth in worths)

    def test_by_chance(self):
        rows = []
        for seed in range(300):
            chance = chance_of(seed)
            house = any_small_house(chance)
            if max(map(tests_many, house[0])) > 60:
                continue
            for pair in free_pairs(house)[:2]:
                road = any_road(chance, house, pair)
                ways = [way for way in told_simple_ways(house) if way[0] in pair and way[-1] in pair]
                found = [agrees(house, road, way) for way in ways]
                self.assertEqual(found, [self.told(house, road, way) for way in ways])
                rows += found
                if is_good(house) and len(house[1]) < 9 and may_add(house, road) is None:
                    self.assertTrue(all(found))
        self.assertGreater(min(rows.count(True), rows.count(False)), 20)

    def test_500(self):
        with self.assertRaises(TooMany) as caught:
            agrees(MORE_HOUSE, (0, 2) + MORE_HOUSE[1][1][2:], (0, 1, 2))
        self.assertEqual(caught.exception.most, 500)
        more, said = MORE_HOUSE[0][2], MORE_HOUSE[1][1][2]
        house = ((PICK,) * 3 + (more,), COPIES[1] + ((2, 3, said, ZERO),))
        with self.assertRaises(TooMany) as caught:
            agrees(house, (0, 2, COPY, COPY), (0, 1, 2))
        self.assertEqual(caught.exception.most, 500)
        just, said = JUST_HOUSE[0][1], JUST_HOUSE[1][0][2]
        house = ((PICK,) * 3 + (just,), COPIES[1] + ((2, 3, said, ZERO),))
        self.assertIs(agrees(house, (0, 2, COPY, COPY), (2, 1, 0)), True)
        self.assertIsNone(may_add(house, (0, 2, COPY, COPY)))


if __name__ == "__main__":
    unittest.main()
