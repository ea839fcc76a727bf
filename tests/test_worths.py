"""[13] The order and the number of worths; [14] their fields."""

import copy
import unittest
from functools import cmp_to_key

from samples import any_form, any_worth, chance_of, things
from wherebeen.errors import NoField, NoPlace, NoValue, Taken, TooMany, Wrong
from wherebeen.forms import is_form, is_worth
from wherebeen.worths import (all_worths, beside, field_names, field_of, is_ahead, is_finite_form, least_worth,
                              part_form, part_worth, place_of, renamed_form, sorted_worths, value_in, with_value,
                              worth_at, worths_many)

WORD, TWO = ("word",), ("pick", 2)
FORM = (("name", WORD), ("tags", ("row", WORD)), ("mark", ("maybe", TWO)), ("side", TWO))
SMALL = (("mark", ("maybe", TWO)), ("side", TWO))
FINITE = tuple(("pick", many) for many in range(1, 5)) + tuple(("maybe", ("pick", many)) for many in range(1, 5))


def ahead_as_told(one, other):
    """[2]: field by field, None ahead of all tuples, all else as Python has it."""
    for value, its_value in zip(one, other):
        if value != its_value:
            return value is None or (its_value is not None and value < its_value)
    return False


class Order(unittest.TestCase):
    def test_least(self):
        self.assertEqual(least_worth(FORM), ("", (), None, 0))
        self.assertEqual(least_worth((("a", ("maybe", WORD)), ("b", ("row", TWO)), ("c", ("pick", 4)))), (None, (), 0))

    def test_ahead(self):
        form = (("m", ("maybe", WORD)), ("r", ("row", TWO)))
        rows = [(None, (1, 1)), (("",), ()), (("",), (0,)), (("",), (0, 0)), (("",), (1,)), (("B",), ()), (("a",), ())]
        for one in range(len(rows)):
            for other in range(len(rows)):
                self.assertIs(is_ahead(form, rows[one], rows[other]), one < other, (rows[one], rows[other]))

    def test_none_ahead_of_tuples_and_then_the_next_field(self):
        self.assertIs(is_ahead(SMALL, (None, 1), ((0,), 0)), True)
        self.assertIs(is_ahead(SMALL, ((0,), 0), (None, 1)), False)
        self.assertIs(is_ahead(SMALL, (None, 0), (None, 1)), True)
        self.assertIs(is_ahead(SMALL, (None, 0), (None, 0)), False)

    def test_ahead_by_chance(self):
        for seed in range(300):
            chance = chance_of(seed)
            form = any_form(chance)
            one, other = any_worth(chance, form), any_worth(chance, form)
            self.assertIs(is_ahead(form, one, other), ahead_as_told(one, other))
            self.assertIs(is_ahead(form, one, one), False)

    def test_sorted(self):
        worths = [((0,), 1), (None, 1), ((0,), 1), (None, 0), ((0,), 0), (None, 1)]
        before = list(worths)
        found = sorted_worths(SMALL, worths)
        self.assertEqual(found, [(None, 0), (None, 1), ((0,), 0), ((0,), 1)])
        self.assertEqual(worths, before)
        found.clear()
        self.assertEqual(len(sorted_worths(SMALL, worths)), 4)
        self.assertEqual(sorted_worths(SMALL, []), [])
        self.assertIsNot(sorted_worths(SMALL, worths), worths)

    def test_sorted_by_chance(self):
        for seed in range(100):
            chance = chance_of(seed)
            form = any_form(chance)
            worths = [any_worth(chance, form) for _ in range(12)]
            worths += worths[:3]
            key = cmp_to_key(lambda one, other: -1 if ahead_as_told(one, other) else int(one != other))
            self.assertEqual(sorted_worths(form, worths), sorted(set(worths), key=key))


class Number(unittest.TestCase):
    def test_finite(self):
        self.assertIs(is_finite_form(SMALL), True)
        self.assertIs(is_finite_form((("a", ("pick", 4)),)), True)
        for kind in (WORD, ("maybe", WORD), ("row", WORD), ("row", ("pick", 1))):
            self.assertIs(is_finite_form((("a", kind),)), False)
            self.assertIs(is_finite_form(SMALL + (("a", kind),)), False)
            self.assertIsNone(worths_many((("a", kind),)))

    def test_many(self):
        self.assertEqual(worths_many(SMALL), 6)
        self.assertEqual(worths_many((("a", ("pick", 1)),)), 1)
        most = tuple((name, ("maybe", ("pick", 4))) for name in "abcde")
        self.assertEqual(worths_many(most), 3125)
        worths = all_worths(most)
        self.assertEqual(len(worths), 3125)
        self.assertEqual([place_of(most, worth) for worth in worths], list(range(3125)))
        self.assertEqual([worth_at(most, place) for place in range(3125)], worths)

    def test_all(self):
        self.assertEqual(all_worths(SMALL), [(None, 0), (None, 1), ((0,), 0), ((0,), 1), ((1,), 0), ((1,), 1)])
        found = all_worths(SMALL)
        found.pop()
        self.assertEqual(len(all_worths(SMALL)), 6)

    def test_all_by_chance(self):
        for seed in range(60):
            form = any_form(chance_of(seed), FINITE, 4)
            worths = all_worths(form)
            self.assertEqual(len(worths), worths_many(form))
            self.assertEqual(sorted_worths(form, worths), worths)
            self.assertTrue(all(is_worth(form, worth) for worth in worths))
            self.assertEqual([place_of(form, worth) for worth in worths], list(range(len(worths))))
            self.assertEqual([worth_at(form, place) for place in range(len(worths))], worths)

    def test_no_place(self):
        for place in [-1, 6, 10 ** 39, True, False, None, "0", (0,), [0], {}, Wrong(0)]:
            with self.assertRaises(NoPlace) as caught:
                worth_at(SMALL, place)
            self.assertIs(caught.exception.place, place)


class Fields(unittest.TestCase):
    worth = ("x", ("a", "b"), (1,), 0)

    def test_names(self):
        self.assertEqual(field_names(FORM), ["name", "tags", "mark", "side"])
        field_names(FORM).clear()
        self.assertEqual(len(field_names(FORM)), 4)

    def test_field_and_value(self):
        for index, name in enumerate(field_names(FORM)):
            self.assertEqual(field_of(FORM, name), index)
            self.assertEqual(value_in(FORM, self.worth, name), self.worth[index])

    def test_with_value(self):
        self.assertEqual(with_value(FORM, self.worth, "name", "y"), ("y", ("a", "b"), (1,), 0))
        self.assertEqual(with_value(FORM, self.worth, "tags", ()), ("x", (), (1,), 0))
        self.assertEqual(with_value(FORM, self.worth, "mark", None), ("x", ("a", "b"), None, 0))
        self.assertEqual(with_value(FORM, self.worth, "side", 1), ("x", ("a", "b"), (1,), 1))
        self.assertEqual(self.worth, ("x", ("a", "b"), (1,), 0))

    def test_no_field(self):
        for name in ["", "nam", "names", "Name", True, 0, None, ["name"], ("name",), {"name": 0}, Wrong("name")] + things():
            for call in (lambda: field_of(FORM, name), lambda: value_in(FORM, self.worth, name),
                         lambda: with_value(FORM, self.worth, name, "y"), lambda: with_value(FORM, self.worth, name, 7)):
                with self.assertRaises(NoField) as caught:
                    call()
                self.assertIs(caught.exception.name, name)

    def test_no_value(self):
        for name, values in (("name", [1, None, "1234567890123", ("a",)]), ("side", [2, -1, True, False, "0", None]),
                             ("mark", [0, (2,), (True,), [0], ()]), ("tags", [None, ["a"], (1,), "a"])):
            for value in values + [{}, [[]], Wrong(0), object()]:
                with self.assertRaises(NoValue) as caught:
                    with_value(FORM, self.worth, name, value)
                self.assertIs(caught.exception.value, value)

    def test_parts(self):
        self.assertEqual(part_form(FORM, ("side", "name")), (("side", TWO), ("name", WORD)))
        self.assertEqual(part_worth(FORM, self.worth, ("side", "name")), (0, "x"))
        self.assertEqual(part_form(FORM, tuple(field_names(FORM))), FORM)
        self.assertEqual(part_worth(FORM, self.worth, ("tags",)), (("a", "b"),))

    def test_parts_no_field(self):
        for names in (("name", "zz", "yy"), ("zz", "name", "aa"), ("mark", "side", "tags", "name", "zz")):
            for call in (lambda: part_form(FORM, names), lambda: part_worth(FORM, self.worth, names)):
                with self.assertRaises(NoField) as caught:
                    call()
                self.assertEqual(caught.exception.name, "zz")

    def test_beside(self):
        self.assertEqual(beside(SMALL, (("a", WORD),)), SMALL + (("a", WORD),))
        three = (("x", WORD), ("y", WORD), ("z", WORD))
        self.assertEqual(beside(SMALL, three), SMALL + three)
        self.assertTrue(is_form(beside(three, SMALL)))

    def test_beside_too_many_first(self):
        with self.assertRaises(TooMany) as caught:
            beside(FORM, SMALL)
        self.assertEqual(caught.exception.most, 5)

    def test_beside_taken(self):
        for other, name in ((SMALL, "mark"), ((("x", WORD), ("side", WORD), ("mark", WORD)), "side")):
            with self.assertRaises(Taken) as caught:
                beside(SMALL, other)
            self.assertEqual(caught.exception.name, name)

    def test_renamed(self):
        names = {"side": "mark", "mark": "side"}
        self.assertEqual(renamed_form(SMALL, names), (("side", ("maybe", TWO)), ("mark", TWO)))
        self.assertEqual(names, {"side": "mark", "mark": "side"})
        self.assertEqual(renamed_form(SMALL, {"mark": "a", "side": "b"}), (("a", ("maybe", TWO)), ("b", TWO)))

    def test_arguments_stay(self):
        names = {"mark": "a", "side": "b"}
        before = copy.deepcopy(names)
        renamed_form(SMALL, names)
        self.assertEqual(names, before)


if __name__ == "__main__":
    unittest.main()
