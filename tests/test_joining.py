"""[48] Joined houses; [8] which of them are good."""

import unittest

from goods import (BITS, COPY, FORK, LEFT, ONE, PICK, RIGHT, SIX_NINE, SQUARE, TWO, ZERO, alike_house, all_copied,
                   any_good_square_house, told_good, told_led, told_simple_ways, told_there_and_back, turn_for)
from samples import WORD, any_house, chance_of
from test_faults import ALONE, ROAD
from test_homes import any_good_houses
from test_houses import TREE
from test_returns import CARD, CARDS, FULL, JUST_HOUSE, MORE_HOUSE, UNLIKE
from wherebeen.errors import Parted, TooMany, Unlike
from wherebeen.faults import is_good
from wherebeen.forms import is_house
from wherebeen.houses import road_between
from wherebeen.joining import join_fault, joined, spots_joined
from wherebeen.parted import parted_ways
from wherebeen.probes import tests_many, tests_of
from wherebeen.ways import led

ZEROS = ((PICK, PICK), ((0, 1, ZERO, ZERO),))
ONES = ((PICK, PICK), ((0, 1, ONE, ONE),))
LEFTS = ((BITS, BITS), ((0, 1, LEFT, LEFT),))


def told_join_fault(house, spot, other, its_spot):
    for way in told_simple_ways(house, spot):
        for its_way in told_simple_ways(other, its_spot):
            back, its_back = told_there_and_back(way), told_there_and_back(its_way)
            for test in tests_of(house[0][spot]):
                if told_led(other, its_back, told_led(house, back, test)) != told_led(house, back, told_led(other, its_back, test)):
                    return (way, its_way, test)
    return None


def full_house(many, roads, turn=ZERO):
    """A house of so many picks with so many roads."""
    pairs = [(0, spot) for spot in range(1, many)] + [(one, other) for one in range(1, many) for other in range(one + 1, many)]
    return alike_house(PICK, sorted(pairs[:roads]), [turn] * roads, many)


class Joined(unittest.TestCase):
    def test_order_of_forms_and_roads(self):
        one, other = ((PICK, BITS), ((0, 1, (("say", 0), ("say", 1), ("say", "x")), (("copy", 1),)),)), (
            (SQUARE, PICK, BITS), ((0, 1, (("copy", 1),), (("copy", 0), ("say", 0))),
                                   (1, 2, (("copy", 0), ("say", 0), ("say", "")), (("copy", 0),))))
        # the road between SQUARE and PICK turns about, as PICK stands ahead of SQUARE in the joined house
        wanted = ((PICK, BITS, SQUARE, BITS), (one[1][0], (0, 2, (("copy", 0), ("say", 0)), (("copy", 1),)),
                                               (0, 3) + other[1][1][2:]))
        self.assertEqual(joined(one, 0, other, 1), wanted)
        self.assertEqual(spots_joined(one, 0, other, 1), [2, 0, 3])
        wanted = ((PICK, BITS, SQUARE, PICK), (one[1][0], (1, 3, (("copy", 0),), (("copy", 0), ("say", 0), ("say", ""))),
                                               (2, 3) + other[1][0][2:]))
        self.assertEqual(joined(one, 1, other, 2), wanted)
        self.assertEqual(spots_joined(one, 1, other, 2), [2, 3, 1])
        self.assertEqual(joined(other, 1, one, 0), ((SQUARE, PICK, BITS, BITS), other[1] + ((1, 3) + one[1][0][2:],)))

    def test_roads_are_put_in_order(self):
        left, right = alike_house(PICK, [(0, 1), (1, 2)], [ZERO, ONE], 3), alike_house(PICK, [(0, 1), (0, 2)], [COPY, ZERO], 3)
        self.assertEqual(joined(left, 0, right, 0)[1], ((0, 1, ZERO, ZERO), (0, 3, COPY, COPY), (0, 4, ZERO, ZERO), (1, 2, ONE, ONE)))
        self.assertEqual([road[:2] for road in joined(right, 2, left, 2)[1]], [(0, 1), (0, 2), (2, 4), (3, 4)])

    def test_with_a_form_alone(self):
        for spot in range(3):
            self.assertEqual(joined(FORK, spot, ((BITS,), ()), 0), FORK)
            self.assertEqual(spots_joined(FORK, spot, ((BITS,), ()), 0), [spot])
            self.assertIsNone(join_fault(FORK, spot, ((BITS,), ()), 0))
            self.assertIsNone(join_fault(((BITS,), ()), 0, FORK, spot))
        self.assertEqual(joined(((BITS,), ()), 0, FORK, 1), ((BITS,) * 3, ((0, 1, LEFT, LEFT), (1, 2, RIGHT, RIGHT))))

    def test_a_house_with_itself(self):
        self.assertEqual(joined(LEFTS, 0, LEFTS, 0), ((BITS,) * 3, ((0, 1, LEFT, LEFT), (0, 2, LEFT, LEFT))))
        self.assertEqual(joined(LEFTS, 1, LEFTS, 1), ((BITS,) * 3, ((0, 1, LEFT, LEFT), (1, 2, LEFT, LEFT))))

    def test_by_chance(self):
        made = turned = 0
        for seed in range(1500):
            chance = chance_of(seed)
            one, other = (any_house(chance, (TWO, WORD), 1, 4, 2) for _ in range(2))
            spot, its_spot = chance.randrange(len(one[0])), chance.randrange(len(other[0]))
            if one[0][spot] != other[0][its_spot] or len(one[0]) + len(other[0]) > 7 or len(one[1]) + len(other[1]) > 9:
                continue
            found, spots = joined(one, spot, other, its_spot), spots_joined(one, spot, other, its_spot)
            self.assertTrue(is_house(found))
            self.assertEqual(len(found[1]), len(one[1]) + len(other[1]))
            self.assertEqual(found[0][:len(one[0])], one[0])
            self.assertEqual([found[0][at] for at in spots], list(other[0]))
            self.assertEqual(sorted(set(spots) | set(range(len(one[0])))), list(range(len(found[0]))))
            for road in one[1]:
                self.assertIn(road, found[1])
            for first, last, there, back in other[1]:
                road = found[1][road_between(found, spots[first], spots[last])]
                self.assertEqual(road[2:], (there, back) if spots[first] < spots[last] else (back, there))
                turned += spots[first] > spots[last]
            made += 1
        self.assertGreater(min(made, turned), 20)

    def test_six_forms_and_seven(self):
        for many, other in ((5, 2), (4, 3), (1, 6), (6, 1)):
            self.assertEqual(len(joined(full_house(many, many - 1), 0, full_house(other, other - 1), 0)[0]), 6)
        for many, other in ((6, 2), (4, 4), (2, 6), (6, 6)):
            with self.assertRaises(TooMany) as caught:
                joined(full_house(many, many - 1), 0, full_house(other, other - 1), 0)
            self.assertEqual(caught.exception.most, 6)

    def test_nine_roads_and_ten(self):
        for one, other in ((full_house(5, 8), full_house(2, 1)), (full_house(4, 6), full_house(3, 3)), (full_house(6, 9), ALONE)):
            self.assertEqual(len(joined(one, 1 if len(one[0]) > 1 else 0, other, 0)[1]), 9)
            self.assertEqual(len(joined(other, 0, one, 0)[1]), 9)
        for one, other in ((full_house(5, 9), full_house(2, 1)), (full_house(2, 1), full_house(5, 9))):
            with self.assertRaises(TooMany) as caught:
                joined(one, 0, other, 0)
            self.assertEqual(caught.exception.most, 9)

    def test_order_of_errors(self):
        six, five = full_house(6, 9), full_house(5, 9)
        with self.assertRaises(TooMany) as caught:
            joined(six, 0, five, 0)
        self.assertEqual(caught.exception.most, 6)
        unlike = ((BITS,) + five[0][1:], ((0, 1, (("copy", 0),), (("copy", 0), ("say", 0), ("say", ""))),) + tuple(
            (one, other, (("say", 0),), (("say", 0), ("say", 0), ("say", ""))) if one == 0 else (one, other, there, back)
            for one, other, there, back in five[1][1:]))
        self.assertTrue(is_house(unlike))
        with self.assertRaises(Unlike):
            joined(six, 0, unlike, 0)

    def test_unlike(self):
        renamed = ((("q", TWO),),)
        for call in (joined, spots_joined, join_fault):
            for one, spot, other, its_spot in ((CARDS, 0, CARDS, 1), (ALONE, 0, (renamed, ()), 0), (FORK, 0, TREE, 0)):
                with self.assertRaises(Unlike):
                    call(one, spot, other, its_spot)

    def test_spots_of_houses_too_large_to_be_joined(self):
        self.assertEqual(spots_joined(full_house(6, 9), 3, full_house(6, 9), 2), [6, 7, 3, 8, 9, 10])
        self.assertEqual(spots_joined(full_house(5, 9), 4, full_house(2, 1), 1), [5, 4])
        self.assertEqual(spots_joined(MORE_HOUSE, 2, MORE_HOUSE, 2), [3, 4, 2])
        self.assertEqual(len(joined(MORE_HOUSE, 2, MORE_HOUSE, 2)[0]), 5)


class JoinFault(unittest.TestCase):
    def test_may_be_joined(self):
        for spot in range(3):
            self.assertIsNone(join_fault(FORK, spot, LEFTS, 1))
            self.assertIsNone(join_fault(LEFTS, 0, FORK, spot))
        self.assertIsNone(join_fault(ZEROS, 0, ZEROS, 1))
        self.assertIsNone(join_fault(CARDS, 0, CARDS, 0))
        self.assertTrue(is_good(joined(CARDS, 1, CARDS, 1)))

    def test_may_not(self):
        self.assertEqual(join_fault(ZEROS, 0, ONES, 0), ((0, 1), (0, 1), (0,)))
        self.assertEqual(join_fault(ZEROS, 1, ONES, 0), ((1, 0), (0, 1), (0,)))
        chain = ((PICK,) * 3, ((0, 1, COPY, COPY), (1, 2, ZERO, ZERO)))
        self.assertEqual(join_fault(chain, 0, ONES, 1), ((0, 1, 2), (1, 0), (0,)))
        self.assertEqual(join_fault(ONES, 1, chain, 0), ((1, 0), (0, 1, 2), (0,)))
        self.assertIsNone(join_fault(chain, 0, ZEROS, 1))

    def test_first_test(self):
        form = (("a", ("pick", 3)), ("w", WORD))
        late = (("table", ("copy", 0), (0, 1, 1)), ("copy", 1))
        down = (("table", ("copy", 0), (0, 0, 2)), ("copy", 1))
        one, other = (((form,) * 2, ((0, 1, turn, turn),)) for turn in (late, down))
        self.assertEqual(join_fault(one, 0, other, 0), ((0, 1), (0, 1), (2, "~1")))
        self.assertEqual(join_fault(other, 0, one, 1), ((0, 1), (1, 0), (2, "~1")))

    def test_unlike_forms_besides(self):
        plain = ((CARD, FULL), ((0, 1, (("copy", 0), ("rowof", ("copy", 1))), (("copy", 0), ("first", 1))),))
        named = ((FULL, PICK), ((0, 1, ZERO, (("say", "x"), ("say", ()))),))
        self.assertIsNone(join_fault(plain, 1, CARDS, 0))
        self.assertIsNone(join_fault(plain, 1, named, 0))
        named = ((FULL, PICK), ((0, 1, ZERO, (("say", "x"), ("say", ("a", "b")))),))
        self.assertEqual(join_fault(plain, 1, named, 0), ((1, 0), (0, 1), ("~0", ())))

    def test_by_what_the_joined_house_is(self):
        good = bad = 0
        for seed in range(400):
            chance = chance_of(seed)
            one, other = (any_good_square_house(chance, 3) for _ in range(2))
            spot, its_spot = chance.randrange(len(one[0])), chance.randrange(len(other[0]))
            found = join_fault(one, spot, other, its_spot)
            self.assertEqual(found, told_join_fault(one, spot, other, its_spot))
            self.assertIs(found is None, told_good(joined(one, spot, other, its_spot)))
            self.assertIs(join_fault(other, its_spot, one, spot) is None, found is None)
            good += found is None
            bad += found is not None
        self.assertGreater(min(good, bad), 30)

    def test_houses_with_words(self):
        for chance, house in any_good_houses(0, 40, spots=3, roads=3, fields=3):
            spot = chance.randrange(len(house[0]))
            self.assertEqual(join_fault(house, spot, house, spot), told_join_fault(house, spot, house, spot))
            turn = all_copied(house[0][spot])
            self.assertIsNone(join_fault(house, spot, ((house[0][spot],) * 2, ((0, 1, turn, turn),)), 1))

    def test_more_together_than_a_house(self):
        house = alike_house(BITS, SIX_NINE, [LEFT, RIGHT, all_copied(BITS)] * 3)
        self.assertIsNone(join_fault(house, 2, house, 5))
        blank = (("copy", 0), ("copy", 1), ("say", ""))
        self.assertIsNone(join_fault(house, 0, alike_house(BITS, SIX_NINE, [blank] * 9), 0))
        ones = (("say", 1), ("copy", 1), ("copy", 2))
        found = join_fault(house, 0, alike_house(BITS, SIX_NINE, [blank] * 3 + [ones] * 6), 0)
        self.assertEqual(found, ((0, 3), (0, 3, 1), (0, 0, "~2")))

    def test_few_ahead_of_parted(self):
        for one, other in ((MORE_HOUSE, ALONE), (ALONE, MORE_HOUSE), (ROAD, MORE_HOUSE), (MORE_HOUSE, ROAD)):
            with self.assertRaises(TooMany) as caught:
                join_fault(one, 0, other, 0)
            self.assertEqual(caught.exception.most, 500)
        self.assertIsNone(join_fault(JUST_HOUSE, 0, JUST_HOUSE, 0))
        for one, other in ((MORE_HOUSE, ROAD), (ROAD, MORE_HOUSE)):
            with self.assertRaises(Unlike):
                join_fault(one, 2 if one == MORE_HOUSE else 0, other, 2 if other == MORE_HOUSE else 0)

    def test_parted_of_the_one_then_of_the_other(self):
        for one, other, wanted in ((ROAD, UNLIKE, ROAD), (UNLIKE, ROAD, UNLIKE), (ZEROS, UNLIKE, UNLIKE), (ROAD, ONES, ROAD)):
            with self.assertRaises(Parted) as caught:
                join_fault(one, 0, other, 0)
            self.assertEqual((caught.exception.worth, caught.exception.way, caught.exception.other), parted_ways(wanted))

    def test_squares_tell_maps(self):
        house = ((SQUARE, SQUARE), ((0, 1, turn_for((0, 0, 2, 2)), turn_for((0, 0, 2, 2))),))
        self.assertEqual([led(house, (0, 1), worth) for worth in tests_of(SQUARE)], [(0, 0), (0, 0), (1, 0), (1, 0)])
        self.assertEqual(tests_many(SQUARE), 4)


if __name__ == "__main__":
    unittest.main()
