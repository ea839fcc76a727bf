"""[32] The elements of a house, and what they lose."""

import unittest

from goods import FORK, FLIP, PICK, any_small_house, told_led, told_lots
from samples import any_worth, chance_of, things
from test_faults import ALONE
from test_homes import CHAIN, any_good_houses, assert_guarded, told_homes
from test_returns import CARDS, JUST_HOUSE
from wherebeen.elements import element_of, home_worth, is_element, lost
from wherebeen.errors import Parted, TooMany
from wherebeen.parted import parted_ways
from wherebeen.probes import tests_many
from wherebeen.ways import gone_of, led, simple_ways


def told_element(house, spot, worth, waiting=()):
    return told_homes(house, spot, worth)[0] + (tuple(sorted(waiting)),)


def told_lost(chance, house, element, road):
    """What an element becomes: which road is taken first, and from which of its ends, is left to chance."""
    spot, worth, waiting = element
    left = set(waiting) | {road}
    while True:
        homes = dict(told_homes(house, spot, worth))
        ready = [(index, end) for index in sorted(left) for end in house[1][index][:2] if end in homes]
        if not ready:
            return told_element(house, spot, worth, left)
        index, end = chance.choice(ready)
        left.discard(index)
        spot = sum(house[1][index][:2]) - end
        worth = told_led(house, (end, spot), homes[end])


class Elements(unittest.TestCase):
    def test_of_worths(self):
        self.assertEqual(element_of(CHAIN, 2, (1,)), (1, (1,), ()))
        self.assertEqual(element_of(CHAIN, 2, (0,)), (0, (0,), ()))
        self.assertEqual(element_of(CHAIN, 0, (1,)), (0, (1,), ()))
        self.assertEqual(element_of(ALONE, 0, (1,)), (0, (1,), ()))
        self.assertEqual(element_of(CARDS, 1, ("x", None)), (0, ("x", ()), ()))

    def test_lost(self):
        self.assertEqual(lost(CHAIN, (1, (1,), ()), 0), (0, (0,), ()))
        self.assertEqual(lost(CHAIN, (0, (1,), ()), 1), (0, (1,), (1,)))
        self.assertEqual(lost(CHAIN, (0, (1,), (1,)), 0), (0, (0,), ()))
        self.assertEqual(lost(CHAIN, (0, (1,), (1,)), 1), (0, (1,), (1,)))
        self.assertEqual(lost(CHAIN, (1, (1,), ()), 1), (1, (1,), ()))
        self.assertEqual(lost(CHAIN, (0, (0,), ()), 0), (0, (0,), ()))
        self.assertEqual(lost(FORK, (1, (1, 1, "x"), ()), 1), (1, (1, 1, "x"), (1,)))
        self.assertEqual(lost(FORK, (1, (1, 1, "x"), (1,)), 0), (0, (0, 0, "x"), ()))
        self.assertEqual(lost(FORK, (1, (0, 1, "x"), ()), 0), (0, (0, 1, "x"), ()))

    def test_home_worth(self):
        self.assertEqual([home_worth(CHAIN, (0, (0,), ()), spot) for spot in range(3)], [(0,)] * 3)
        self.assertEqual([home_worth(CHAIN, (1, (1,), ()), spot) for spot in range(3)], [None, (1,), (1,)])
        self.assertEqual([home_worth(CHAIN, (0, (1,), ()), spot) for spot in range(3)], [(1,), None, None])
        self.assertEqual([home_worth(CHAIN, (0, (1,), (1,)), spot) for spot in range(3)], [None] * 3)
        self.assertEqual(home_worth(((PICK,) * 2, ((0, 1, FLIP, FLIP),)), (0, (0,), ()), 1), (1,))

    def test_loss_by_chance(self):
        waited = 0
        for chance, house in any_good_houses(0, 80):
            if not house[1]:
                continue
            spot = chance.randrange(len(house[0]))
            element = element_of(house, spot, any_worth(chance, house[0][spot]))
            for _ in range(4):
                road = chance.randrange(len(house[1]))
                wanted = told_lost(chance, house, element, road)
                found = lost(house, element, road)
                self.assertEqual(found, wanted)
                self.assertEqual(lost(house, found, road), found)
                self.assertIs(is_element(house, found), True)
                other = chance.randrange(len(house[1]))
                self.assertEqual(lost(house, found, other), lost(house, lost(house, element, other), road))
                waited += bool(found[2])
                element = found
        self.assertGreater(waited, 25)

    def test_over_each_road_a_worth_goes_to_the_loss_of_its_place(self):
        for chance, house in any_good_houses(200, 220):
            for index, (one, other, _, _) in enumerate(house[1]):
                for way in ((one, other), (other, one)):
                    worth = any_worth(chance, house[0][way[0]])
                    place = element_of(house, way[0], worth)
                    self.assertEqual(lost(house, place, index), element_of(house, way[1], led(house, way, worth)))
                    self.assertEqual(home_worth(house, place, way[0]), worth)

    def test_along_ways(self):
        for chance, house in any_good_houses(300, 320):
            spot = chance.randrange(len(house[0]))
            worth = any_worth(chance, house[0][spot])
            for way in simple_ways(house, spot)[:6]:
                roads = list(gone_of(house, way))
                chance.shuffle(roads)
                element = element_of(house, spot, worth)
                for road in roads + roads[:1]:
                    element = lost(house, element, road)
                self.assertEqual(home_worth(house, element, way[-1]), led(house, way, worth))


class IsElement(unittest.TestCase):
    def test_near_values(self):
        right = [(0, (0,), ()), (0, (1,), ()), (1, (1,), ()), (0, (1,), (1,))]
        for thing in right:
            self.assertIs(is_element(CHAIN, thing), True, thing)
        for thing in ((1, (0,), ()), (2, (0,), ()), (2, (1,), ()), (0, (0,), (1,)), (0, (1,), (0,)), (0, (1,), (0, 1)),
                      (0, (1,), (1, 1)), (1, (1,), (0,)), (0, (1,), (2,)), (0, (1,), (-1,)), (0, (1,), [1]), (0, (1,), (True,)),
                      (False, (1,), ()), (0, (True,), ()), (0, [1], ()), [0, (1,), ()], (0, (1,)), (0, (1,), (), ()),
                      (3, (1,), ()), (0, (2,), ()), (0, 1, ()), (0, (1,), None), (None, (1,), ()), (0, (1,), ("1",)),
                      (0, (1,), ((),)), (0, (1,), 1), (0.5, (1,), ())):
            self.assertIs(is_element(CHAIN, thing), False, thing)

    def test_roads_that_wait_ascend(self):
        house = ((PICK,) * 4, ((0, 1, (("say", 0),), (("say", 0),)), (1, 2, FLIP, FLIP), (2, 3, FLIP, FLIP)))
        self.assertIsNone(parted_ways(house))
        self.assertIs(is_element(house, (0, (1,), (1, 2))), True)
        for waiting in ((2, 1), (1, 1, 2), (1, 2, 2), (1, 2, 3), (0, 1, 2)):
            self.assertIs(is_element(house, (0, (1,), waiting)), False, waiting)

    def test_any_value(self):
        for house in (CHAIN, ALONE, FORK, CARDS):
            for thing in things() + [0, "element", ((), (), ()), (0, (), ()), (0, None, None), house]:
                self.assertIs(is_element(house, thing), False, thing)
        for at in range(3):
            for thing in things():
                if thing != () or at != 2:
                    other = (0, (1,), (1,))[:at] + (thing,) + (0, (1,), (1,))[at + 1:]
                    self.assertIs(is_element(CHAIN, other), False, other)

    def test_all_by_chance(self):
        rows = []
        for seed in range(120):
            chance = chance_of(seed)
            house = any_small_house(chance)
            if max(map(tests_many, house[0])) > 40 or parted_ways(house) is not None:
                continue
            spot = chance.randrange(len(house[0]))
            worth = any_worth(chance, house[0][spot])
            homes = dict(told_homes(house, spot, worth))
            for waiting in told_lots(len(house[1])):
                ends = {end for road in waiting for end in house[1][road][:2]}
                wanted = spot == min(homes) and not ends & set(homes)
                self.assertIs(is_element(house, (spot, worth, waiting)), wanted)
                rows.append((wanted, bool(waiting)))
        for row in ((True, True), (True, False), (False, True), (False, False)):
            self.assertGreater(rows.count(row), 10)

    def test_errors(self):
        assert_guarded(self, (lambda house: element_of(house, 0, (1,)), lambda house: lost(house, (0, (0,), ()), 0),
                              lambda house: home_worth(house, (0, (0,), ()), 0), lambda house: home_worth(house, (0, (0,), ()), 1),
                              lambda house: is_element(house, None), lambda house: is_element(house, (0, (0,), ()))))
        self.assertIs(is_element(JUST_HOUSE, (0, (0,), ())), True)
        self.assertTrue(issubclass(Parted, ValueError) and issubclass(TooMany, ValueError))


if __name__ == "__main__":
    unittest.main()
