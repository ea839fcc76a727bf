"""[54] Families; [9] what can be done anywhere."""

import itertools
import unittest

from goods import (ALL_MAPS, BITS, COPY, FLIP, FORK, LEFT, ONE, PICK, RIGHT, SETTLED_MAPS, SQUARE, TWO, ZERO, alike_house,
                   all_copied, any_good_square_house, any_good_three_house, good_house, three_turn, told_led, told_rings, turn_for)
from samples import WORD, any_house, any_turn, chance_of, things
from test_deeds import NEW, SWAP, told_unlike
from test_faults import ALONE, ROAD, TURNING
from test_forms import exchanged, listed
from test_homes import CHAIN, any_good_houses, assert_guarded
from test_returns import CARDS, FULL, JUST_HOUSE, MORE_HOUSE, UNLIKE
from test_turns import chain
from wherebeen.deeds import deed_by, keeps_order, unlike_deed
from wherebeen.errors import HasRing, NotAnywhere, NotFinite, Parted, TooMany
from wherebeen.families import are_free, family_by, is_family, maps_of, unlike_road
from wherebeen.fields import widened
from wherebeen.forms import is_turn
from wherebeen.parted import parted_ways
from wherebeen.probes import tests_many, tests_of
from wherebeen.rings import least_rings
from wherebeen.turns import plain_turn, turned
from wherebeen.worths import all_worths, is_finite_form

RING = alike_house(BITS, [(0, 1), (0, 2), (1, 2)], [LEFT] * 3, 3)
TWO_RINGS = alike_house(PICK, [(0, 3), (1, 2), (1, 3), (2, 3), (2, 4), (3, 4)], [ZERO] * 6, 5)
SHORT = (("first", 1),)


def told_unlike_road(house, turns):
    for index, road in enumerate(house[1]):
        for side in (0, 1):
            here, near = road[side], road[1 - side]
            for test in tests_of(house[0][here]):
                if told_led(house, (here, near), turned(turns[here], test)) != turned(turns[near], told_led(house, (here, near), test)):
                    return (index, side, test)
    return None


def are_maps(house, maps):
    """Whether it makes no difference on any road which of the maps is done, ahead of it or behind it."""
    for one, other, _, _ in house[1]:
        for here, near in ((one, other), (other, one)):
            for worth in all_worths(house[0][here]):
                if told_led(house, (here, near), maps[here][worth]) != maps[near][told_led(house, (here, near), worth)]:
                    return False
    return True


def told_any_maps(house, deed):
    """Whether there are maps, found by trying all of them."""
    forms = house[0]
    rows = []
    for spot, form in enumerate(forms):
        worths = all_worths(form)
        choices = itertools.product(worths, repeat=len(worths))
        rows.append([{worth: turned(deed[1], worth) for worth in worths}] if spot == deed[0] else
                    [dict(zip(worths, choice)) for choice in choices])
    return any(are_maps(house, maps) for maps in itertools.product(*rows))


class IsFamily(unittest.TestCase):
    def check(self, house, turns, wanted):
        self.assertEqual(unlike_road(house, turns), wanted)
        self.assertIs(is_family(house, turns), wanted is None)

    def test_families(self):
        for turns in ((NEW,) * 3, (LEFT,) * 3, (RIGHT,) * 3, (all_copied(BITS),) * 3, (LEFT, LEFT, LEFT)):
            self.check(FORK, turns, None)
        self.check(ALONE, (FLIP,), None)
        self.check(CARDS, ((("say", "x"), ("copy", 1)), (("say", "x"), ("copy", 1))), None)
        self.check(((PICK, PICK), ((0, 1, FLIP, FLIP),)), (ZERO, ONE), None)
        # each turn does the same to what comes over the roads, but not to all worths
        self.check(CHAIN, (ZERO, ZERO, ZERO), None)
        self.check(((PICK, PICK), ((0, 1, ZERO, ZERO),)), (COPY, ZERO), None)

    def test_of_bad_houses(self):
        self.check(ROAD, (COPY, COPY), None)
        self.check(ROAD, (ZERO, ZERO), None)
        self.check(ROAD, (COPY, ZERO), (0, 0, (1,)))
        self.check(UNLIKE, (COPY,) * 3, None)
        self.check(TURNING, (FLIP,) * 3, None)
        self.check(TURNING, (ZERO, ZERO, ZERO), (1, 0, (0,)))
        self.check(TURNING, (ZERO, ZERO, ONE), (2, 0, (0,)))

    def test_one_turn_otherwise_one_more_one_out(self):
        family = family_by(FORK, (0, NEW))
        for at in range(3):
            for turn in (SWAP, all_copied(BITS), (("copy", 0), ("copy", 1), ("say", "old"))):
                turns = family[:at] + (turn,) + family[at + 1:]
                self.check(FORK, turns, told_unlike_road(FORK, turns))
                self.assertIs(is_family(FORK, turns), False)
            self.assertIs(is_family(FORK, family[:at] + family[at + 1:]), False)
            self.assertIs(is_family(FORK, family[:at] + family[at:at + 1] + family[at:]), False)

    def test_least_road_and_side_and_first_test(self):
        self.check(FORK, (SWAP,) * 3, (0, 0, (0, 1, "~2")))
        self.check(FORK, (RIGHT, RIGHT, NEW), (1, 0, (0, 0, "~2")))
        # there it makes no difference, only back
        house = ((PICK, PICK), ((0, 1, ZERO, COPY),))
        self.check(house, (COPY, ZERO), (0, 1, (1,)))
        self.check(house, (FLIP, ZERO), (0, 1, (0,)))
        house = ((FULL, (("a", ("maybe", WORD)),)), ((0, 1, SHORT, (("say", "x"), ("rowof", ("copy", 0)))),))
        self.check(house, ((("copy", 0), ("say", ())), (("copy", 0),)), (0, 0, ("~0", ("~1",))))
        self.check(house, ((("copy", 0), ("copy", 1)), (("say", None),)), (0, 0, ("~0", ("~1",))))
        self.check(house, ((("say", "y"), ("copy", 1)), (("copy", 0),)), (0, 1, (None,)))

    def test_any_values(self):
        for thing in things() + [[NEW] * 3, (NEW,) * 2, NEW, (NEW, NEW, None), (NEW, NEW, list(NEW)), {0: NEW}, (0, NEW),
                                 (NEW, NEW, ZERO), (ZERO,) * 3, ((("say", True),) + NEW[1:],) * 3, "abc"]:
            self.assertIs(is_family(FORK, thing), False, thing)
        for thing in exchanged((NEW,) * 3) + [listed((NEW,) * 3)]:
            told = isinstance(thing, tuple) and len(thing) == 3 and all(is_turn(BITS, BITS, turn) for turn in thing)
            self.assertIs(is_family(FORK, thing), told and told_unlike_road(FORK, thing) is None, thing)
        self.assertIs(is_family(CARDS, (plain_turn(FULL), (("copy", 0), ("copy", 1)))), True)
        self.assertIs(is_family(CARDS, (plain_turn(FULL), (("copy", 0), ("rowof", ("copy", 1))))), False)

    def test_by_chance(self):
        found = []
        for seed in range(200):
            chance = chance_of(seed)
            house = any_house(chance, (TWO, WORD, ("maybe", TWO)), 2, 4, 2)
            turns = tuple(any_turn(chance, form, form, 2) if chance.random() < 0.3 else plain_turn(form) for form in house[0])
            self.check(house, turns, told_unlike_road(house, turns))
            found.append(is_family(house, turns))
        self.assertGreater(min(found.count(True), found.count(False)), 40)

    def test_500(self):
        turns = tuple(plain_turn(form) for form in MORE_HOUSE[0])
        for call in (unlike_road, is_family):
            with self.assertRaises(TooMany) as caught:
                call(MORE_HOUSE, turns)
            self.assertEqual(caught.exception.most, 500)
        for thing in (None, (), [turns], (ZERO,) + turns[1:]):
            with self.assertRaises(TooMany):
                is_family(MORE_HOUSE, thing)
        # also if the first road tells, and no form with many tests is at it
        with self.assertRaises(TooMany) as caught:
            unlike_road(MORE_HOUSE, (ZERO,) + turns[1:])
        self.assertEqual(caught.exception.most, 500)
        self.check(JUST_HOUSE, tuple(plain_turn(form) for form in JUST_HOUSE[0]), None)


class FamilyBy(unittest.TestCase):
    def test_of_a_fork(self):
        for spot in range(3):
            for turn in (NEW, LEFT, RIGHT, all_copied(BITS)):
                family = family_by(FORK, (spot, turn))
                self.assertIs(is_family(FORK, family), True)
                self.assertEqual(family[spot], turn)
        self.assertEqual(family_by(FORK, (0, NEW))[1], (("say", 0), ("copy", 1), ("say", "new")))
        self.assertEqual(family_by(ALONE, (0, FLIP)), (FLIP,))
        self.assertEqual(family_by(ALONE, (0, (chain(201),))), ((chain(201),),))

    def test_of_deeds_that_keep_order(self):
        families = others = 0
        for seed in range(400):
            chance = chance_of(seed)
            house = any_good_square_house(chance, tree=True)
            spot = chance.randrange(len(house[0]))
            deed = (spot, turn_for(chance.choice(ALL_MAPS if seed % 2 else SETTLED_MAPS)))
            found = told_unlike(house, deed)
            try:
                family = family_by(house, deed)
            except NotAnywhere as error:
                self.assertEqual((error.way, error.worth), found)
                others += 1
                continue
            except TooMany as error:
                self.assertEqual(error.most, 200)
                continue
            self.assertIsNone(found)
            self.assertIs(is_family(house, family), True)
            for near in range(len(house[0])):
                if near != spot:
                    way = [way for way in itertools.chain(*(self.ways(house, near, spot)))][0]
                    self.assertEqual((near, family[near]), deed_by(house, deed, way))
            families += len(house[0]) > 1
        self.assertGreater(min(families, others), 40)

    def ways(self, house, first, last):
        spots = range(len(house[0]))
        pairs = [road[:2] for road in house[1]]
        for many in range(2, len(spots) + 1):
            yield [way for way in itertools.permutations(spots, many) if way[0] == first and way[-1] == last and all(
                (min(step), max(step)) in pairs for step in zip(way, way[1:]))]

    def test_other_forms(self):
        families = 0
        for chance, house in any_good_houses(0, 80, tree=True, fields=3):
            spot = chance.randrange(len(house[0]))
            deed = (spot, any_turn(chance, house[0][spot], house[0][spot], 2))
            if max(map(tests_many, house[0])) <= 60 and keeps_order(house, deed):
                family = family_by(house, deed)
                self.assertIs(is_family(house, family), True)
                self.assertEqual(family[spot], deed[1])
                families += 1
        self.assertGreater(families, 15)

    def test_errors_in_order(self):
        assert_guarded(self, (lambda house: family_by(house, (0, FLIP)),))
        with self.assertRaises(HasRing) as caught:
            family_by(RING, (0, SWAP))
        self.assertEqual(caught.exception.way, (0, 1, 2, 0))
        with self.assertRaises(HasRing) as caught:
            family_by(TWO_RINGS, (4, ONE))
        self.assertEqual(caught.exception.way, (1, 2, 3, 1))
        self.assertEqual([least_rings(TWO_RINGS)[0], told_rings(TWO_RINGS)[0]], [(1, 2, 3, 1)] * 2)
        # the deed does not keep order, and would have too many parts elsewhere
        house = ((PICK,) * 3, ((0, 1, ZERO, ZERO), (1, 2, (chain(101),), (chain(101),))))
        with self.assertRaises(NotAnywhere) as caught:
            family_by(house, (1, ONE))
        self.assertEqual((caught.exception.way, caught.exception.worth), unlike_deed(house, (1, ONE)))
        with self.assertRaises(TooMany) as caught:
            family_by(house, (1, COPY))
        self.assertEqual(caught.exception.most, 200)
        with self.assertRaises(Parted):
            family_by(TURNING, (0, ONE))


class Maps(unittest.TestCase):
    def check(self, house, deed, wanted=None):
        """Holds what is returned against the words of [54] and, if it is not told, against trying all maps."""
        found = maps_of(house, deed)
        wanted = told_any_maps(house, deed) if wanted is None else wanted
        self.assertIs(found is not None, wanted)
        if found is not None:
            self.assertIsInstance(found, tuple)
            self.assertEqual([list(row) for row in found], [all_worths(form) for form in house[0]])
            self.assertEqual(found[deed[0]], {worth: turned(deed[1], worth) for worth in all_worths(house[0][deed[0]])})
            for row, form in zip(found, house[0]):
                self.assertLessEqual(set(row.values()), set(all_worths(form)))
            self.assertTrue(are_maps(house, found))
        return wanted

    def test_some(self):
        self.assertEqual(maps_of(ALONE, (0, FLIP)), ({(0,): (1,), (1,): (0,)},))
        self.assertEqual(maps_of(((PICK, PICK), ((0, 1, FLIP, FLIP),)), (0, ZERO)), (
            {(0,): (0,), (1,): (0,)}, {(0,): (1,), (1,): (1,)}))
        self.assertIsNone(maps_of(CHAIN, (0, ONE)))
        self.assertEqual(maps_of(CHAIN, (0, ZERO))[0], {(0,): (0,), (1,): (0,)})
        form = (("m", ("maybe", ("pick", 3))),)
        house = alike_house(form, [(0, 1)], [(("say", None),)], 2)
        self.check(house, (1, (("copy", 0),)), True)
        self.check(house, (1, (("some", ("say", 1)),)), False)

    def test_just_four_worths_and_five(self):
        five = (("m", ("maybe", ("pick", 4))),)
        for forms in ((five, PICK), (PICK, five), (five, five)):
            house = (forms, ((0, 1, tuple(("say", None if kind[0] == "maybe" else 0) for _, kind in forms[1]),
                              tuple(("say", None if kind[0] == "maybe" else 0) for _, kind in forms[0])),))
            with self.assertRaises(TooMany) as caught:
                maps_of(house, (0, all_copied(forms[0])))
            self.assertEqual(caught.exception.most, 4)
        self.check(((SQUARE,) * 2, ((0, 1, plain_turn(SQUARE), plain_turn(SQUARE)),)), (1, turn_for((1, 1, 0, 3))), True)
        self.check((((("p", ("pick", 4)),),), ()), (0, (("table", ("copy", 0), (3, 3, 0, 1)),)), True)

    def test_not_finite_goes_ahead(self):
        word, five = (("w", WORD),), (("m", ("maybe", ("pick", 4))),)
        said = {word: (("say", ""),), five: (("say", None),), PICK: ZERO}
        for forms, spot in (((five, word, word), 1), ((word, five, PICK), 0), ((PICK, five, word), 2), ((PICK, word, word), 1)):
            house = (forms, tuple((at, at + 1, said[forms[at + 1]], said[forms[at]]) for at in (0, 1)))
            self.assertIsNone(parted_ways(house))
            with self.assertRaises(NotFinite) as caught:
                maps_of(house, (0, all_copied(forms[0])))
            self.assertEqual(caught.exception.spot, spot)
        assert_guarded(self, (lambda house: maps_of(house, (0, FLIP)),))

    def test_without_rings(self):
        found = []
        for seed in range(300):
            chance = chance_of(seed)
            house = any_good_square_house(chance, 6, tree=True)
            spot = chance.randrange(len(house[0]))
            deed = (spot, turn_for(chance.choice(ALL_MAPS if seed % 2 else SETTLED_MAPS)))
            found.append(self.check(house, deed, keeps_order(house, deed)))
        self.assertGreater(min(found.count(True), found.count(False)), 50)

    def test_with_rings(self):
        rows = []
        for seed in range(3000):
            chance = chance_of(seed)
            house = any_good_three_house(chance)
            if not told_rings(house):
                continue
            deed = (chance.randrange(len(house[0])), three_turn([chance.randrange(3) for _ in range(3)]))
            kept = keeps_order(house, deed)
            found = self.check(house, deed)
            self.assertTrue(kept or not found)
            rows.append(found)
        self.assertGreater(min(rows.count(True), rows.count(False)), 10)

    def test_large_rings(self):
        for seed in range(60):
            chance = chance_of(seed)
            house = good_house(chance, kinds=(TWO, ("pick", 1), TWO), fields=2)
            if max(len(all_worths(form)) for form in house[0]) <= 4 and all(map(is_finite_form, house[0])):
                spot = chance.randrange(len(house[0]))
                deed = (spot, any_turn(chance, house[0][spot], house[0][spot], 2))
                found = maps_of(house, deed)
                if found is not None:
                    self.check(house, deed, True)
                self.assertTrue(found is None or keeps_order(house, deed))


class AreFree(unittest.TestCase):
    def test_free_and_not(self):
        plain = all_copied(BITS)
        self.assertIs(are_free(FORK, (NEW,) * 3, (LEFT,) * 3), True)
        self.assertIs(are_free(FORK, (plain,) * 3, (NEW,) * 3), True)
        old = (("copy", 0), ("copy", 1), ("say", "old"))
        self.assertIs(are_free(FORK, (NEW,) * 3, (old,) * 3), False)
        self.assertIs(are_free(ALONE, (ZERO,), (FLIP,)), False)
        self.assertIs(are_free(ALONE, (FLIP,), (FLIP,)), True)

    def test_in_one_form_alone(self):
        # the families do unlike things only in the last form
        house = ((PICK, PICK), ((0, 1, ZERO, ZERO),))
        one, other = (COPY, ZERO), (ZERO, (("table", ("copy", 0), (0, 0)),))
        self.assertTrue(is_family(house, one) and is_family(house, other))
        self.assertIs(are_free(house, one, other), True)
        three = ((("p", ("pick", 3)),), PICK)
        house = (three, ((0, 1, ZERO, ZERO),))
        one = ((("table", ("copy", 0), (0, 1, 1)),), COPY)
        other = ((("table", ("copy", 0), (0, 2, 2)),), COPY)
        self.assertTrue(is_family(house, one) and is_family(house, other))
        self.assertIs(are_free(house, one, other), False)
        self.assertIs(are_free(house, one, one), True)
        turned_about = (house[0][::-1], ((0, 1, ZERO, ZERO),))
        self.assertIs(are_free(turned_about, one[::-1], other[::-1]), False)

    def test_by_chance(self):
        found = []
        for seed in range(100):
            chance = chance_of(seed)
            house = any_house(chance, (TWO, WORD), 2, 3, 2)
            house = widened(widened(house, "v", TWO), "w", WORD)
            turns = []
            for _ in range(2):
                extra = [("v", TWO), ("w", WORD)]
                made = any_turn(chance, tuple(extra), tuple(extra), 3)
                turns.append(tuple(plain_turn(form)[:-2] + tuple(self.moved(part, len(form) - 2) for part in made) for form in house[0]))
                self.assertIs(is_family(house, turns[-1]), True)
            wanted = all(turned(one, turned(other, test)) == turned(other, turned(one, test))
                         for form, one, other in zip(house[0], *turns) for test in tests_of(form))
            self.assertIs(are_free(house, *turns), wanted)
            found.append(wanted)
        self.assertGreater(min(found.count(True), found.count(False)), 20)

    def moved(self, part, by):
        """The expression with greater indexes of fields."""
        if not isinstance(part, tuple) or not part or part[0] == "say":
            return part
        if part[0] in ("copy", "is", "first"):
            return (part[0], part[1] + by)
        if part[0] == "table":
            return ("table", self.moved(part[1], by), part[2])
        return tuple(tuple(self.moved(inner, by) for inner in item) if part[0] == "when" and at == 2 else
                     self.moved(item, by) for at, item in enumerate(part))

    def test_500(self):
        turns = tuple(plain_turn(form) for form in MORE_HOUSE[0])
        with self.assertRaises(TooMany) as caught:
            are_free(MORE_HOUSE, turns, turns)
        self.assertEqual(caught.exception.most, 500)


if __name__ == "__main__":
    unittest.main()
