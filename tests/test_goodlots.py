"""[39] Good lots of roads."""

import unittest

from goods import (COPY, FLIP, FORK, ONE, PICK, SIX_NINE, ZERO, alike_house, any_pairs, any_small_house, good_house, told_lots)
from samples import any_house, chance_of
from test_faults import ALONE, BACK_FLIPS, ROAD, TURNING
from test_houses import TREE
from test_returns import JUST_HOUSE, MORE_HOUSE, UNLIKE
from wherebeen.errors import TooMany
from wherebeen.faults import is_good
from wherebeen.forms import is_house
from wherebeen.goodlots import fewest_cuts, greatest_good, house_of, is_good_lot, least_bad, pieces_of
from wherebeen.houses import neighbours, road_between
from wherebeen.probes import tests_many


def told_pieces(house, lot):
    """The pieces, found by putting forms together over one road after the other."""
    groups = [{spot} for spot in range(len(house[0]))]
    for road in lot:
        joined = [group for group in groups if group & set(house[1][road][:2])]
        groups = [group for group in groups if group not in joined] + [set().union(*joined)]
    return sorted((tuple(sorted(group)), tuple(road for road in lot if house[1][road][0] in group)) for group in groups)


def told_good_lot(house, lot):
    return all(is_good(house_of(house, piece)) for piece in told_pieces(house, lot))


def check_all(test, house):
    """Holds all that is told of a house's lots against asking each of them; returns whether some are good and some bad."""
    lots = told_lots(len(house[1]))
    good = [set(lot) for lot in lots if told_good_lot(house, lot)]
    bad = [set(lot) for lot in lots if set(lot) not in good]
    for lot in lots:
        test.assertIs(is_good_lot(house, lot), set(lot) in good)
    whole = set(range(len(house[1])))
    test.assertEqual(greatest_good(house), sorted(tuple(sorted(lot)) for lot in good if not any(lot < other for other in good)))
    test.assertEqual(least_bad(house), sorted(tuple(sorted(lot)) for lot in bad if not any(other < lot for other in bad)))
    cuts = [tuple(sorted(whole - lot)) for lot in good]
    test.assertEqual(fewest_cuts(house), min(cuts, key=lambda cut: (len(cut), cut)))
    return bool(bad) and len(good) > 1


class Pieces(unittest.TestCase):
    def test_no_road_and_all(self):
        self.assertEqual(pieces_of(TREE, ()), [((spot,), ()) for spot in range(5)])
        self.assertEqual(pieces_of(TREE, (0, 1, 2, 3)), [((0, 1, 2, 3, 4), (0, 1, 2, 3))])
        self.assertEqual(pieces_of(ALONE, ()), [((0,), ())])

    def test_some(self):
        self.assertEqual(pieces_of(TREE, (0, 3)), [((0, 2), (0,)), ((1,), ()), ((3, 4), (3,))])
        self.assertEqual(pieces_of(TREE, (1, 2)), [((0,), ()), ((1, 2, 4), (1, 2)), ((3,), ())])
        self.assertEqual(pieces_of(TURNING, (1,)), [((0, 2), (1,)), ((1,), ())])
        # a road between two forms of a piece that is not in the lot is none of its roads
        self.assertEqual(pieces_of(TURNING, (0, 2)), [((0, 1, 2), (0, 2))])

    def test_by_chance(self):
        for seed in range(60):
            chance = chance_of(seed)
            many = chance.randint(1, 6)
            pairs = any_pairs(chance, many)
            house = alike_house(PICK, pairs, [COPY] * len(pairs), many)
            for lot in told_lots(len(pairs)):
                if chance.random() < 0.2:
                    self.assertEqual(pieces_of(house, lot), told_pieces(house, lot))

    def test_house_of(self):
        self.assertEqual(house_of(TREE, ((3, 4), (3,))), (TREE[0][3:], ((0, 1) + TREE[1][3][2:],)))
        self.assertEqual(house_of(TREE, ((1,), ())), ((TREE[0][1],), ()))
        self.assertEqual(house_of(TURNING, ((0, 1, 2), (0, 2))), (TURNING[0], (TURNING[1][0], TURNING[1][2])))
        self.assertEqual(house_of(TREE, ((0, 1, 2, 3, 4), (0, 1, 2, 3))), TREE)
        forms, roads = TREE
        self.assertEqual(house_of(TREE, ((1, 2, 4), (1, 2))), ((forms[1], forms[2], forms[4]), (
            (0, 1) + roads[1][2:], (1, 2) + roads[2][2:])))

    def test_house_of_by_chance(self):
        for seed in range(40):
            chance = chance_of(seed)
            house = any_house(chance, most=2, deepest=2)
            lot = tuple(road for road in range(len(house[1])) if chance.random() < 0.6)
            for piece in pieces_of(house, lot):
                part = house_of(house, piece)
                self.assertTrue(is_house(part))
                self.assertEqual(len(part[1]), len(piece[1]))
                for at, spot in enumerate(piece[0]):
                    self.assertEqual(part[0][at], house[0][spot])
                    for near in neighbours(part, at):
                        road = road_between(house, spot, piece[0][near])
                        self.assertIn(road, piece[1])
                        self.assertEqual(part[1][road_between(part, at, near)][2:], house[1][road][2:])

    def test_any_number_of_tests(self):
        self.assertEqual(pieces_of(MORE_HOUSE, (1,)), [((0,), ()), ((1, 2), (1,))])
        self.assertEqual(house_of(MORE_HOUSE, ((2,), ())), ((MORE_HOUSE[0][2],), ()))


class GoodLots(unittest.TestCase):
    def test_of_good_houses(self):
        for house in (ALONE, FORK, alike_house(PICK, SIX_NINE[:5], [ZERO] * 5)):
            whole = tuple(range(len(house[1])))
            self.assertEqual([greatest_good(house), least_bad(house), fewest_cuts(house)], [[whole], [], ()])
            self.assertIs(is_good_lot(house, whole), True)
            self.assertIs(is_good_lot(house, ()), True)

    def test_each_sort_of_fault(self):
        self.assertEqual([greatest_good(ROAD), least_bad(ROAD), fewest_cuts(ROAD)], [[()], [(0,)], (0,)])
        self.assertEqual([greatest_good(UNLIKE), least_bad(UNLIKE), fewest_cuts(UNLIKE)], [[(0,), (1,)], [(0, 1)], (0,)])
        self.assertEqual([greatest_good(TURNING), least_bad(TURNING), fewest_cuts(TURNING)],
                         [[(0, 1), (0, 2), (1, 2)], [(0, 1, 2)], (0,)])
        self.assertEqual([is_good_lot(TURNING, lot) for lot in ((), (0,), (0, 2), (0, 1, 2))], [True, True, True, False])
        self.assertEqual([is_good_lot(BACK_FLIPS, ()), is_good_lot(BACK_FLIPS, (0,))], [True, False])

    def test_pieces_apart(self):
        # the two roads whose returns do not change places are apart without the one between them
        house = ((PICK,) * 4, ((0, 1, ZERO, ZERO), (1, 2, COPY, COPY), (2, 3, ONE, ONE)))
        self.assertEqual([greatest_good(house), least_bad(house), fewest_cuts(house)],
                         [[(0, 1), (0, 2), (1, 2)], [(0, 1, 2)], (0,)])
        self.assertIs(is_good_lot(house, (0, 2)), True)

    def test_least_of_several_cuts(self):
        # with road 2 cut the others are good; without it two more would have to go
        house = ((PICK,) * 4, ((0, 1, ZERO, ZERO), (0, 2, ZERO, ZERO), (0, 3, ONE, ONE)))
        self.assertEqual(fewest_cuts(house), (2,))
        self.assertEqual([greatest_good(house), least_bad(house)], [[(0, 1), (2,)], [(0, 2), (1, 2)]])
        two = ((PICK,) * 5, ((0, 1, ZERO, ZERO), (0, 2, ZERO, ZERO), (0, 3, ONE, ONE), (0, 4, ONE, ONE)))
        self.assertEqual([fewest_cuts(two), greatest_good(two)], [(0, 1), [(0, 1), (2, 3)]])

    def test_by_chance(self):
        mixed = 0
        for seed in range(120):
            chance = chance_of(seed)
            house = any_small_house(chance) if seed % 2 else any_house(chance, (("pick", 2),), 1, 4, 2)
            if max(map(tests_many, house[0])) <= 40 and len(house[1]) <= 5:
                mixed += check_all(self, house)
        self.assertGreater(mixed, 25)

    def test_seven_roads(self):
        for seed in range(2):
            chance = chance_of(seed)
            pairs = [(0, 1), (0, 2), (1, 2), (1, 3), (2, 3), (3, 4), (4, 5)]
            house = alike_house(PICK, pairs, [chance.choice((COPY, FLIP, ZERO, ZERO, ONE)) for _ in pairs])
            self.assertTrue(check_all(self, house))

    def test_eight_roads(self):
        for many in (8, 9):
            house = alike_house(PICK, SIX_NINE[:many], [ZERO] * many)
            for call in (greatest_good, least_bad, fewest_cuts):
                with self.assertRaises(TooMany) as caught:
                    call(house)
                self.assertEqual(caught.exception.most, 7)
            self.assertIs(is_good_lot(house, tuple(range(many))), True)
        self.assertEqual(fewest_cuts(alike_house(PICK, SIX_NINE[:7], [ZERO] * 7)), ())

    def test_500(self):
        house = (MORE_HOUSE[0] + (PICK,) * 3, MORE_HOUSE[1] + tuple((one, other, COPY, COPY) for one, other in (
            (1, 3), (1, 4), (3, 4), (3, 5), (4, 5), (1, 5))))
        house = (house[0], tuple(sorted(house[1])))
        self.assertTrue(is_house(house) and len(house[1]) == 8)
        for given in (MORE_HOUSE, house):
            for call in (greatest_good, least_bad, fewest_cuts, lambda house: is_good_lot(house, ()),
                         lambda house: is_good_lot(house, (0,))):
                with self.assertRaises(TooMany) as caught:
                    call(given)
                self.assertEqual(caught.exception.most, 500)
        self.assertEqual([greatest_good(JUST_HOUSE), fewest_cuts(JUST_HOUSE), is_good_lot(JUST_HOUSE, (0,))], [[(0,)], (), True])

    def test_made_good(self):
        for seed in range(20):
            house = good_house(chance_of(seed), spots=4, fields=2)
            if max(map(tests_many, house[0])) <= 500:
                self.assertEqual(least_bad(house), [])


if __name__ == "__main__":
    unittest.main()
