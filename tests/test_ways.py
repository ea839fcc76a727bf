"""[22] Ways."""

import itertools
import unittest

from samples import WORD, any_house, any_way, any_worth, chance_of
from test_houses import ALONE, RING, TREE, house_of
from test_probes import JUST, MORE
from test_turns import chain
from wherebeen.errors import TooMany
from wherebeen.forms import is_turn, is_way
from wherebeen.houses import road_between, step_turn
from wherebeen.probes import tests_many, tests_of
from wherebeen.turns import plain_turn, turn_parts, turned
from wherebeen.ways import (gone_of, led, parting_worth, return_of, rings_of, same_ways, simple_ways, steps_of, turn_of)

TWO = ("pick", 2)
PICK = (("p", TWO),)
COPY, ZERO = (("copy", 0),), (("say", 0),)
FULL = (("name", WORD), ("tags", ("row", WORD)))
CARD = (("name", WORD), ("tag", ("maybe", WORD)))
CARDS = ((FULL, CARD, CARD), ((0, 1, (("copy", 0), ("first", 1)), (("copy", 0), ("rowof", ("copy", 1)))),
                              (1, 2, (("copy", 0), ("say", None)), (("copy", 0), ("copy", 1)))))


class Led(unittest.TestCase):
    worth = ("x", ("a", "b"))

    def test_led_and_steps(self):
        self.assertEqual(led(CARDS, (0,), self.worth), self.worth)
        self.assertEqual(led(CARDS, (0, 1, 0), self.worth), ("x", ("a",)))
        self.assertEqual(steps_of(CARDS, (0, 1, 0, 1, 2, 1), self.worth), [
            self.worth, ("x", ("a",)), ("x", ("a",)), ("x", ("a",)), ("x", None), ("x", None)])
        self.assertEqual(steps_of(CARDS, (2,), ("y", None)), [("y", None)])
        steps_of(CARDS, (0, 1), self.worth).clear()
        self.assertEqual(len(steps_of(CARDS, (0, 1), self.worth)), 2)

    def test_gone(self):
        self.assertEqual([gone_of(CARDS, way) for way in ((0,), (0, 1, 0), (2, 1, 0, 1), (1, 2, 1))], [(), (0,), (0, 1), (1,)])
        self.assertEqual(gone_of(RING, (0, 3, 2, 1, 0, 1)), (0, 1, 2, 3))

    def test_return(self):
        self.assertEqual([return_of(way) for way in ((4,), (0, 1), (0, 1, 2), (0, 1, 2, 1))],
                         [(4,), (0, 1, 0), (0, 1, 2, 1, 0), (0, 1, 2, 1, 2, 1, 0)])

    def test_by_chance(self):
        for seed in range(100):
            chance = chance_of(seed)
            house = any_house(chance)
            way = any_way(chance, house, chance.randrange(len(house[0])), 12)
            worth = any_worth(chance, house[0][way[0]])
            wanted = [worth]
            for one, other in zip(way, way[1:]):
                wanted.append(turned(step_turn(house, one, other), wanted[-1]))
            self.assertEqual(steps_of(house, way, worth), wanted)
            self.assertEqual(led(house, way, worth), wanted[-1])
            roads = {road_between(house, one, other) for one, other in zip(way, way[1:])}
            self.assertEqual(gone_of(house, way), tuple(sorted(roads)))
            back = return_of(way)
            self.assertTrue(is_way(house, back))
            self.assertEqual([len(back), back[:len(way)], back[::-1]], [2 * len(way) - 1, way, back])


class TurnOf(unittest.TestCase):
    def test_turns(self):
        self.assertEqual(turn_of(CARDS, (1,)), plain_turn(CARD))
        self.assertEqual(turn_of(CARDS, (0, 1, 0)), (("copy", 0), ("rowof", ("first", 1))))
        self.assertEqual(turn_of(CARDS, (1, 2, 1)), (("copy", 0), ("say", None)))

    def test_just_two_hundred(self):
        for there, back, way in ((200, 1, (0, 1)), (100, 101, (0, 1, 0)), (100, 101, (1, 0, 1)), (11, 10, (0, 1) * 10)):
            house = ((PICK, PICK), ((0, 1, (chain(there),), (chain(back),)),))
            parts = turn_parts(turn_of(house, way))
            self.assertEqual(parts, 200 if there > 11 else 182)

    def test_two_hundred_and_one(self):
        for there, back, way in ((201, 1, (0, 1)), (101, 101, (0, 1, 0)), (100, 102, (1, 0, 1)), (11, 10, (0, 1) * 12)):
            house = ((PICK, PICK), ((0, 1, (chain(there),), (chain(back),)),))
            with self.assertRaises(TooMany) as caught:
                turn_of(house, way)
            self.assertEqual(caught.exception.most, 200)

    def test_too_many_on_the_way_although_the_end_is_small(self):
        many, none = (chain(201),), ZERO
        house = ((PICK, PICK), ((0, 1, many, none),))
        with self.assertRaises(TooMany):
            turn_of(house, (0, 1, 0))
        self.assertEqual(turn_of(house, (1, 0)), none)

    def test_by_chance(self):
        made = 0
        for seed in range(150):
            chance = chance_of(seed)
            house = any_house(chance, most=3)
            way = any_way(chance, house, chance.randrange(len(house[0])), 7)
            first, last = house[0][way[0]], house[0][way[-1]]
            try:
                turn = turn_of(house, way)
            except TooMany:
                continue
            made += len(way) > 2
            self.assertTrue(is_turn(first, last, turn))
            for _ in range(5):
                worth = any_worth(chance, first)
                self.assertEqual(turned(turn, worth), led(house, way, worth))
        self.assertGreater(made, 40)


def told_simple(house, spot):
    """All simple ways, found by asking all tuples."""
    spots = range(len(house[0]))
    rows = [row for many in range(2, len(spots) + 1) for row in itertools.permutations(spots, many)]
    return sorted(row for row in rows if row[0] == spot and is_way(house, row))


class Found(unittest.TestCase):
    def test_simple(self):
        self.assertEqual(simple_ways(TREE, 0), [(0, 2), (0, 2, 1), (0, 2, 4), (0, 2, 4, 3)])
        self.assertEqual(simple_ways(RING, 1), [(1, 0), (1, 0, 3), (1, 0, 3, 2), (1, 2), (1, 2, 3), (1, 2, 3, 0)])
        self.assertEqual(simple_ways(ALONE, 0), [])
        simple_ways(TREE, 0).clear()
        self.assertEqual(len(simple_ways(TREE, 0)), 4)

    def test_rings(self):
        self.assertEqual([rings_of(TREE), rings_of(ALONE)], [[], []])
        self.assertEqual(rings_of(house_of(3, (0, 1), (0, 2), (1, 2))), [
            (0, 1, 2, 0), (0, 2, 1, 0), (1, 0, 2, 1), (1, 2, 0, 1), (2, 0, 1, 2), (2, 1, 0, 2)])
        self.assertEqual(len(rings_of(RING)), 8)
        self.assertEqual(rings_of(RING)[0], (0, 1, 2, 3, 0))
        eight = house_of(5, (0, 1), (0, 2), (0, 3), (0, 4), (1, 2), (3, 4))
        self.assertEqual([ring for ring in rings_of(eight) if ring[0] == 0],
                         [(0, 1, 2, 0), (0, 2, 1, 0), (0, 3, 4, 0), (0, 4, 3, 0)])
        rings_of(RING).clear()
        self.assertEqual(len(rings_of(RING)), 8)

    def test_by_chance(self):
        for seed in range(60):
            house = any_house(chance_of(seed), most=1, deepest=1)
            spots = range(len(house[0]))
            for spot in spots:
                self.assertEqual(simple_ways(house, spot), told_simple(house, spot))
            rings = [way + way[:1] for spot in spots for way in told_simple(house, spot) if len(way) > 2]
            self.assertEqual(rings_of(house), sorted(ring for ring in rings if is_way(house, ring)))


class Parting(unittest.TestCase):
    def test_first_test(self):
        self.assertEqual(parting_worth(CARDS, (0, 1, 0), (0,)), ("~0", ("~1", "~1~")))
        self.assertIs(same_ways(CARDS, (0, 1, 0), (0,)), False)
        self.assertEqual(parting_worth(CARDS, (0, 1), (0, 1, 2, 1)), ("~0", ("~1",)))
        self.assertIsNone(parting_worth(CARDS, (0, 1), (0, 1, 0, 1)))
        self.assertIs(same_ways(CARDS, (0, 1), (0, 1, 0, 1)), True)
        self.assertIs(same_ways(CARDS, (1,), (1, 0, 1)), True)
        self.assertIs(same_ways(CARDS, (2,), (2,)), True)

    def test_by_chance(self):
        parted = 0
        for seed in range(150):
            chance = chance_of(seed)
            house = any_house(chance, most=2)
            first = chance.randrange(len(house[0]))
            one = any_way(chance, house, first, 8)
            others = [way for way in [any_way(chance, house, first, 8) for _ in range(30)] if way[-1] == one[-1]]
            if tests_many(house[0][first]) > 500:
                continue
            for other in others:
                unlike = [test for test in tests_of(house[0][first]) if led(house, one, test) != led(house, other, test)]
                self.assertEqual(parting_worth(house, one, other), unlike[0] if unlike else None)
                self.assertIs(same_ways(house, one, other), not unlike)
                parted += bool(unlike)
        self.assertGreater(parted, 50)

    def test_500_by_the_first_form_alone(self):
        plain = plain_turn(JUST)
        house = ((JUST, JUST), ((0, 1, plain, plain),))
        self.assertIs(same_ways(house, (0,), (0, 1, 0)), True)
        house = ((MORE, PICK), ((0, 1, ZERO, (("say", ()),) * 3),))
        for call in (parting_worth, same_ways):
            for one, other in (((0,), (0, 1, 0)), ((0,), (0,)), ((0, 1), (0, 1))):
                with self.assertRaises(TooMany) as caught:
                    call(house, one, other)
                self.assertEqual(caught.exception.most, 500)
        self.assertEqual(parting_worth(house, (1,), (1, 0, 1)), (1,))
        self.assertIs(same_ways(house, (1, 0), (1, 0, 1, 0)), True)
        self.assertEqual(led(house, (0, 1, 0), ((0,), (1,), ())), ((), (), ()))


if __name__ == "__main__":
    unittest.main()
