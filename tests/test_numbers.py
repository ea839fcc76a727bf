"""[33] The whole in numbers."""

import itertools
import unittest

from goods import COPY, FINITE_KINDS, FLIP, FORK, PICK, TWO, ZERO, any_small_house, told_led
from samples import WORD, chance_of, things
from test_elements import told_element, told_lost
from test_faults import ALONE
from test_homes import CHAIN, any_good_houses, assert_guarded
from test_returns import CARDS, JUST_HOUSE
from wherebeen.errors import NotFinite, TooMany
from wherebeen.numbers import is_whole, whole_of
from wherebeen.parted import parted_ways
from wherebeen.probes import tests_many
from wherebeen.worths import all_worths, is_finite_form, least_worth, worths_many

FIVES = tuple((name, ("maybe", ("pick", 4))) for name in "abc") + (("d", ("pick", 4)),)
TOLD = (3, ((0, 1), (0, 2), (0, 2)), ((0, 0, 0), (0, 1, 2)))


def least_turn(form):
    return tuple(("say", value) for value in least_worth(form))


def constant_star(middle, leaves):
    """A star whose roads give the least worths there and back."""
    return ((middle,) + leaves, tuple((0, spot + 1, least_turn(leaf), least_turn(middle)) for spot, leaf in enumerate(leaves)))


# a worth of a leaf is lost over one road, and the other road waits or not: 4 + 2 * 998 elements, and one more
JUST_2000 = constant_star((("p", ("pick", 4)),), (FIVES, FIVES))
ONE_MORE = constant_star((("p", ("maybe", ("pick", 4))),), (FIVES, FIVES))


def told_whole(house, thing):
    """Whether a tuple of numbers of the right sort is a whole, as the words of [7] and [33] say."""
    many, places, losses = thing
    numbers = range(many)
    right = all(loss[loss[at]] == loss[at] for loss in losses for at in numbers)
    right = right and all(one[two[at]] == two[one[at]] for one in losses for two in losses for at in numbers)
    for (one, other, _, _), loss in zip(house[1], losses):
        for here, there in ((one, other), (other, one)):
            worths = all_worths(house[0][there])
            for place, worth in zip(places[here], all_worths(house[0][here])):
                right = right and places[there][worths.index(told_led(house, (here, there), worth))] == loss[place]
    return right


def come_about(thing):
    """The numbers that are places, or what some losses make of one."""
    _, places, losses = thing
    found = {place for row in places for place in row}
    while True:
        more = found | {loss[number] for loss in losses for number in found}
        if more == found:
            return found
        found = more


def exchanged(thing, path, item):
    if not path:
        return item
    return thing[:path[0]] + (exchanged(thing[path[0]], path[1:], item),) + thing[path[0] + 1:]


def paths_in(thing):
    yield ()
    if isinstance(thing, tuple):
        for index, item in enumerate(thing):
            for path in paths_in(item):
                yield (index,) + path


class WholeOf(unittest.TestCase):
    def test_small(self):
        for house in (CHAIN, ALONE, ((PICK,) * 2, ((0, 1, FLIP, FLIP),)), ((PICK,) * 3, ((0, 1, ZERO, ZERO), (0, 2, ZERO, ZERO)))):
            whole = whole_of(house)
            self.assertTrue(told_whole(house, whole))
            self.assertIs(is_whole(house, whole), True)
            self.assertEqual(sorted(come_about(whole)), list(range(whole[0])))
        self.assertEqual(whole_of(ALONE)[2], ())
        self.assertEqual(sorted(whole_of(ALONE)[1][0]), [0, 1])
        self.assertEqual(whole_of(((PICK,) * 2, ((0, 1, FLIP, FLIP),)))[0], 2)

    def test_by_chance(self):
        waits = 0
        for chance, house in any_good_houses(0, 150, kinds=FINITE_KINDS, fields=2, spots=5):
            whole = whole_of(house)
            many, places, losses = whole
            self.assertTrue(told_whole(house, whole))
            self.assertIs(is_whole(house, whole), True)
            self.assertEqual(sorted(come_about(whole)), list(range(many)))
            self.assertEqual([len(row) for row in places], [worths_many(form) for form in house[0]])
            self.assertTrue(all(len(set(row)) == len(row) for row in places))
            self.assertEqual([len(row) for row in losses], [many] * len(house[1]))
            waits += many > len({place for row in places for place in row})
        self.assertGreater(waits, 5)

    def test_as_many_as_elements(self):
        for chance, house in any_good_houses(150, 190, kinds=FINITE_KINDS, fields=1, spots=4):
            spots = range(len(house[0]))
            found = {told_element(house, spot, worth) for spot in spots for worth in all_worths(house[0][spot])}
            fresh = found
            while fresh:
                fresh = {told_lost(chance, house, one, road) for one in fresh for road in range(len(house[1]))} - found
                found = found | fresh
            self.assertEqual(whole_of(house)[0], len(found))

    def test_small_houses(self):
        good = 0
        for seed in range(250):
            house = any_small_house(chance_of(seed))
            if max(map(tests_many, house[0])) > 40 or parted_ways(house) is not None:
                continue
            endless = [spot for spot, form in enumerate(house[0]) if not is_finite_form(form)]
            if endless:
                with self.assertRaises(NotFinite) as caught:
                    whole_of(house)
                self.assertEqual(caught.exception.spot, endless[0])
            else:
                self.assertTrue(told_whole(house, whole_of(house)))
                good += 1
        self.assertGreater(good, 20)

    def test_2000(self):
        whole = whole_of(JUST_2000)
        self.assertEqual(whole[0], 2000)
        self.assertIs(is_whole(JUST_2000, whole), True)
        self.assertEqual(sorted(come_about(whole)), list(range(2000)))
        with self.assertRaises(TooMany) as caught:
            whole_of(ONE_MORE)
        self.assertEqual(caught.exception.most, 2000)
        self.assertIs(is_whole(ONE_MORE, None), False)


class IsWhole(unittest.TestCase):
    def test_told(self):
        self.assertIs(is_whole(CHAIN, TOLD), True)
        self.assertIs(is_whole(ALONE, (2, ((1, 0),), ())), True)
        self.assertIs(is_whole(ALONE, (10 ** 30, ((10 ** 30 - 1, 7),), ())), True)
        self.assertIs(is_whole(ALONE, (10 ** 30, ((10 ** 30, 7),), ())), False)
        self.assertIs(is_whole(ALONE, (1, ((0, 0),), ())), False)
        # a number more that is no place
        self.assertIs(is_whole(CHAIN, (4, TOLD[1], ((0, 0, 0, 3), (0, 1, 2, 3)))), True)
        self.assertIs(is_whole(CHAIN, (4, TOLD[1], ((0, 0, 0, 1), (0, 1, 2, 3)))), False)

    def test_laws(self):
        pair = ((PICK, PICK), ((0, 1, COPY, COPY),))
        self.assertIs(is_whole(pair, (2, ((0, 1), (0, 1)), ((0, 1),))), True)
        # over the road a worth would have to keep its place
        self.assertIs(is_whole(pair, (2, ((0, 1), (1, 0)), ((0, 1),))), False)
        self.assertIs(is_whole(pair, (2, ((0, 1), (0, 1)), ((1, 0),))), False)
        # only in the numbers that are no places twice is not as once, or two losses do not change places
        self.assertIs(is_whole(pair, (4, ((0, 1), (0, 1)), ((0, 1, 0, 2),))), False)
        self.assertIs(is_whole(pair, (4, ((0, 1), (0, 1)), ((0, 1, 0, 1),))), True)
        three = ((PICK,) * 3, ((0, 1, COPY, COPY), (1, 2, COPY, COPY)))
        self.assertIs(is_whole(three, (3, ((0, 1),) * 3, ((0, 1, 0), (0, 1, 1)))), False)
        self.assertIs(is_whole(three, (3, ((0, 1),) * 3, ((0, 1, 0), (0, 1, 0)))), True)

    def test_there_and_back(self):
        house = ((PICK, PICK), ((0, 1, ZERO, ZERO),))
        self.assertIs(is_whole(house, (3, ((0, 1), (0, 2)), ((0, 0, 0),))), True)
        self.assertIs(is_whole(house, (2, ((0, 1), (0, 1)), ((0, 0),))), True)
        self.assertIs(is_whole(house, (3, ((0, 1), (0, 2)), ((0, 0, 2),))), False)
        self.assertIs(is_whole(house, (3, ((0, 1), (0, 2)), ((0, 1, 0),))), False)
        self.assertIs(is_whole(house, (3, ((1, 0), (0, 2)), ((0, 0, 0),))), False)

    def test_near_values(self):
        for house, whole in ((CHAIN, TOLD), (CHAIN, whole_of(CHAIN)), (ALONE, whole_of(ALONE))):
            for path in paths_in(whole):
                part = whole
                for index in path:
                    part = part[index]
                for item in things() + [2.0, part, 0, 1, 2, 3]:
                    other = exchanged(whole, path, item)
                    # an item of another sort is never right, one of the right sort may be
                    if type(item) is type(part) and isinstance(item, int):
                        wanted = other[0] > 0 and len({len(row) for row in other[2]} | {other[0]}) == 1 and all(
                            0 <= number < other[0] for row in other[1] + other[2] for number in row) and all(
                            len(set(row)) == len(row) for row in other[1]) and told_whole(house, other)
                        if house != ALONE:
                            self.assertIs(is_whole(house, other), wanted, other)
                    elif item != part or type(item) is not type(part):
                        self.assertIs(is_whole(house, other), False, other)
                if isinstance(part, tuple) and part:
                    for other in (part[1:], part + part[-1:], list(part)):
                        self.assertIs(is_whole(house, exchanged(whole, path, other)), False, other)
                if isinstance(part, int) and part < 2:
                    self.assertIs(is_whole(house, exchanged(whole, path, bool(part))), False)

    def test_any_value(self):
        for house in (CHAIN, ALONE):
            for thing in things() + [0, "abc", (1, (), ()), (2, ((0, 1),), ((0, 1),)), house, TOLD[:2], TOLD + ((),)]:
                self.assertIs(is_whole(house, thing), False, thing)

    def test_all_of_a_small_house(self):
        house = ((PICK, PICK), ((0, 1, ZERO, COPY),))
        self.assertIsNotNone(parted_ways(house))
        house = ((PICK, (("q", ("pick", 1)),)), ((0, 1, ZERO, ZERO),))
        found = 0
        for many in (1, 2, 3):
            numbers = range(many)
            for places in itertools.permutations(numbers, 2):
                for row in numbers:
                    for loss in itertools.product(numbers, repeat=many):
                        thing = (many, (places, (row,)), (loss,))
                        self.assertIs(is_whole(house, thing), told_whole(house, thing))
                        found += is_whole(house, thing)
        self.assertGreater(found, 2)


class Errors(unittest.TestCase):
    def test_guarded(self):
        assert_guarded(self, (whole_of, lambda house: is_whole(house, None), lambda house: is_whole(house, TOLD)))

    def test_not_finite(self):
        word = (("w", WORD),)
        row = (("r", ("row", TWO)),)
        maybe = (("m", ("maybe", WORD)),)
        for forms, spot in (((word,), 0), ((PICK, word), 1), ((word, PICK), 0), ((PICK, row, word), 1), ((PICK, PICK, maybe), 2)):
            house = (forms, tuple((at, at + 1, least_turn(forms[at + 1]), least_turn(forms[at])) for at in range(len(forms) - 1)))
            for call in (whole_of, lambda house: is_whole(house, None), lambda house: is_whole(house, TOLD)):
                with self.assertRaises(NotFinite) as caught:
                    call(house)
                self.assertEqual(caught.exception.spot, spot)
        for house in (FORK, CARDS):
            with self.assertRaises(NotFinite):
                whole_of(house)

    def test_parted_goes_first(self):
        word = (("w", WORD),)
        house = ((word, PICK, PICK), ((0, 1, ZERO, (("say", ""),)), (1, 2, COPY, ZERO)))
        assert_bad = parted_ways(house)
        self.assertIsNotNone(assert_bad)
        with self.assertRaises(ValueError) as caught:
            whole_of(house)
        self.assertEqual((caught.exception.worth, caught.exception.way, caught.exception.other), assert_bad)
        with self.assertRaises(NotFinite) as caught:
            whole_of(JUST_HOUSE)
        self.assertEqual(caught.exception.spot, 1)


if __name__ == "__main__":
    unittest.main()
