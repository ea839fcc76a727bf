"""[21] Houses: neighbours, roads, lots, parts, and indexes given anew."""

import itertools
import unittest

from samples import any_house, chance_of
from wherebeen.errors import FallsApart, NoRoad
from wherebeen.forms import is_house
from wherebeen.houses import (hangs_together, neighbours, part_of, renumbered, road_between, step_turn, without_roads)

TWO = ("pick", 2)
COPY, ZERO = (("copy", 0),), (("say", 0),)


def house_of(many, *pairs):
    """A house of so many unlike forms, with roads between these pairs, each of which has turns of its own."""
    forms = tuple((("abcdef"[spot], TWO),) for spot in range(many))
    return (forms, tuple((one, other, (("say", one % 2),), (("table", ("copy", 0), (other % 2, one % 2)),))
                         for one, other in pairs))


TREE = house_of(5, (0, 2), (1, 2), (2, 4), (3, 4))
RING = house_of(4, (0, 1), (0, 3), (1, 2), (2, 3))
ALONE = house_of(1)


def comes_to(many, pairs, first):
    """The forms to which one can come."""
    found = {first}
    for _ in range(many):
        found |= {spot for pair in pairs if found & set(pair) for spot in pair}
    return found


class Roads(unittest.TestCase):
    def test_neighbours(self):
        self.assertEqual([neighbours(TREE, spot) for spot in range(5)], [[2], [2], [0, 1, 4], [4], [2, 3]])
        self.assertEqual([neighbours(RING, spot) for spot in range(4)], [[1, 3], [0, 2], [1, 3], [0, 2]])
        self.assertEqual(neighbours(ALONE, 0), [])
        neighbours(TREE, 2).clear()
        self.assertEqual(neighbours(TREE, 2), [0, 1, 4])

    def test_road_between(self):
        for index, (one, other, _, _) in enumerate(TREE[1]):
            self.assertEqual([road_between(TREE, one, other), road_between(TREE, other, one)], [index, index])
        for one, other in ((0, 1), (1, 0), (0, 4), (2, 3), (2, 2), (0, 0)):
            self.assertIsNone(road_between(TREE, one, other))

    def test_step_turn(self):
        for one, other, there, back in TREE[1]:
            self.assertEqual([step_turn(TREE, one, other), step_turn(TREE, other, one)], [there, back])

    def test_no_road(self):
        for one, other in ((0, 1), (1, 0), (3, 2), (4, 4)):
            with self.assertRaises(NoRoad) as caught:
                step_turn(TREE, one, other)
            self.assertEqual((caught.exception.one, caught.exception.other), (one, other))


class Lots(unittest.TestCase):
    def test_hangs_together(self):
        for lot, wanted in (((), True), ((0,), True), ((3,), True), ((0, 1), True), ((0, 2), True), ((0, 3), False),
                            ((0, 1, 3), False), ((1, 2, 3), True), ((0, 1, 2, 3), True)):
            self.assertIs(hangs_together(TREE, lot), wanted, lot)
        for lot, wanted in (((0, 3), False), ((1, 2), False), ((0, 1, 2, 3), True), ((0, 1, 3), True)):
            self.assertIs(hangs_together(RING, lot), wanted, lot)
        self.assertIs(hangs_together(ALONE, ()), True)

    def test_hangs_together_by_chance(self):
        for seed in range(40):
            house = any_house(chance_of(seed), most=1, deepest=1)
            roads = house[1]
            for many in range(len(roads) + 1):
                for lot in itertools.combinations(range(len(roads)), many):
                    pairs = [roads[index][:2] for index in lot]
                    ends = {spot for pair in pairs for spot in pair}
                    wanted = all(comes_to(6, pairs, spot) == ends for spot in ends)
                    self.assertIs(hangs_together(house, lot), wanted)

    def test_without(self):
        self.assertEqual(without_roads(TREE, ()), TREE)
        self.assertEqual(without_roads(RING, (2,)), (RING[0], RING[1][:2] + RING[1][3:]))
        self.assertEqual(without_roads(ALONE, ()), ALONE)

    def test_without_falls_apart(self):
        for house, lot, spot in ((TREE, (0,), 1), (TREE, (1,), 1), (TREE, (2,), 3), (TREE, (3,), 3), (TREE, (0, 1, 2, 3), 1),
                                 (RING, (0, 2), 1), (RING, (2, 3), 2), (RING, (1, 3), 3), (RING, (0, 1), 1)):
            with self.assertRaises(FallsApart) as caught:
                without_roads(house, lot)
            self.assertEqual(caught.exception.spot, spot, lot)


class Parts(unittest.TestCase):
    def test_part(self):
        self.assertEqual(part_of(TREE, (0, 1, 2, 3, 4)), TREE)
        self.assertEqual(part_of(TREE, (1,)), ((TREE[0][1],), ()))
        forms, roads = TREE
        self.assertEqual(part_of(TREE, (1, 2, 4)), ((forms[1], forms[2], forms[4]),
                                                    ((0, 1) + roads[1][2:], (1, 2) + roads[2][2:])))
        self.assertEqual(part_of(RING, (0, 2, 3)), ((RING[0][0],) + RING[0][2:], (
            (0, 2) + RING[1][1][2:], (1, 2) + RING[1][3][2:])))

    def test_part_falls_apart(self):
        for house, spots, spot in ((TREE, (0, 1), 1), (TREE, (0, 2, 3), 3), (TREE, (1, 3, 4), 3), (RING, (1, 3), 3),
                                   (TREE, (0, 1, 3, 4), 1), (TREE, (0, 3), 3)):
            with self.assertRaises(FallsApart) as caught:
                part_of(house, spots)
            self.assertEqual(caught.exception.spot, spot, spots)

    def test_by_chance(self):
        apart = 0
        for seed in range(60):
            chance = chance_of(seed)
            house = any_house(chance, most=2, deepest=2)
            forms, roads = house
            spots = tuple(sorted(chance.sample(range(len(forms)), chance.randint(1, len(forms)))))
            inside = [road for road in roads if road[0] in spots and road[1] in spots]
            cut = sorted(set(spots) - comes_to(6, [road[:2] for road in inside], spots[0]))
            if cut:
                apart += 1
                with self.assertRaises(FallsApart) as caught:
                    part_of(house, spots)
                self.assertEqual(caught.exception.spot, cut[0])
            else:
                part = part_of(house, spots)
                self.assertTrue(is_house(part))
                self.assertEqual(part[0], tuple(forms[spot] for spot in spots))
                self.assertEqual([(spots[one], spots[other], there, back) for one, other, there, back in part[1]], inside)
        self.assertTrue(5 < apart < 55)


class Anew(unittest.TestCase):
    def test_renumbered(self):
        forms, roads = house_of(3, (0, 1), (1, 2))
        self.assertEqual(renumbered((forms, roads), (0, 1, 2)), (forms, roads))
        self.assertEqual(renumbered((forms, roads), (2, 0, 1)), ((forms[2], forms[0], forms[1]), (
            (0, 2, roads[1][3], roads[1][2]), (1, 2, roads[0][2], roads[0][3]))))
        self.assertEqual(renumbered(ALONE, (0,)), ALONE)

    def test_there_and_back_again(self):
        for seed in range(60):
            chance = chance_of(seed)
            house = any_house(chance, most=2, deepest=2)
            order = list(range(len(house[0])))
            chance.shuffle(order)
            other = renumbered(house, tuple(order))
            self.assertTrue(is_house(other))
            for one, its_one in enumerate(order):
                self.assertEqual(other[0][one], house[0][its_one])
                self.assertEqual(sorted(order[spot] for spot in neighbours(other, one)), neighbours(house, its_one))
                for near in neighbours(other, one):
                    self.assertEqual(step_turn(other, one, near), step_turn(house, its_one, order[near]))
            again = tuple(order.index(spot) for spot in range(len(order)))
            self.assertEqual(renumbered(other, again), house)


if __name__ == "__main__":
    unittest.main()
