"""[17] Expressions worked out, measured, and put together."""

import unittest

from samples import KINDS, any_expression, any_form, any_turn, any_worth, chance_of
from wherebeen.expressions import deep, parts_many, put_in, reads, worked
from wherebeen.forms import is_expression

WORD, TWO = ("word",), ("pick", 2)
FORM = (("name", WORD), ("tags", ("row", WORD)), ("mark", ("maybe", TWO)), ("side", TWO))
WORTH, EMPTY = ("x", ("a", "b"), (1,), 1), ("", (), None, 0)


def told_worked(expression, worth):
    """[2], word by word."""
    sort = expression[0]
    if sort == "copy":
        return worth[expression[1]]
    if sort == "say":
        return expression[1]
    if sort == "is":
        return 0 if worth[expression[1]] in (None, ()) else 1
    if sort == "first":
        return (worth[expression[1]][0],) if worth[expression[1]] else None
    first = told_worked(expression[1], worth)
    if sort == "when":
        return told_worked(expression[2][first], worth)
    if sort == "else":
        return told_worked(expression[2], worth) if first is None else first[0]
    if sort == "table":
        return expression[2][first]
    if sort == "rowof":
        return () if first is None else first
    return (first,)


def told_is(part):
    if part[0] in ("copy", "first"):
        return ("is", part[1])
    if part[0] == "say":
        return ("say", 0) if part[1] is None or part[1] == () else ("say", 1)
    if part[0] in ("some", "one"):
        return ("say", 1)
    if part[0] == "rowof":
        return told_is(part[1])
    return ("when", part[1], tuple(told_is(item) for item in part[2]))


def told_first(part):
    if part[0] == "copy":
        return ("first", part[1])
    if part[0] == "say":
        return ("say", None) if part[1] == () else ("say", (part[1][0],))
    if part[0] == "one":
        return ("some", part[1])
    if part[0] == "rowof":
        return part[1]
    return ("when", part[1], tuple(told_first(item) for item in part[2]))


def told_put_in(part, turn):
    if part[0] == "copy":
        return turn[part[1]]
    if part[0] == "is":
        return told_is(turn[part[1]])
    if part[0] == "first":
        return told_first(turn[part[1]])
    if part[0] == "say":
        return part
    if part[0] == "when":
        return ("when", told_put_in(part[1], turn), tuple(told_put_in(item, turn) for item in part[2]))
    if part[0] == "else":
        return ("else", told_put_in(part[1], turn), told_put_in(part[2], turn))
    return (part[0], told_put_in(part[1], turn)) + part[2:]


def inner(part):
    """The expressions directly in one."""
    if part[0] == "when":
        return [part[1]] + list(part[2])
    if part[0] == "else":
        return [part[1], part[2]]
    return [part[1]] if part[0] in ("table", "some", "one", "rowof") else []


class Worked(unittest.TestCase):
    def check(self, expression, full, empty):
        self.assertEqual([worked(expression, WORTH), worked(expression, EMPTY)], [full, empty])

    def test_each_sort(self):
        self.check(("copy", 1), ("a", "b"), ())
        self.check(("say", "s"), "s", "s")
        self.check(("say", None), None, None)
        self.check(("when", ("copy", 3), (("copy", 0), ("say", "one"))), "one", "")
        self.check(("else", ("copy", 2), ("copy", 3)), 1, 0)
        self.check(("else", ("first", 1), ("say", "none")), "a", "none")
        self.check(("table", ("copy", 3), (3, 2)), 2, 3)
        self.check(("is", 1), 1, 0)
        self.check(("is", 2), 1, 0)
        self.check(("some", ("copy", 0)), ("x",), ("",))
        self.check(("first", 1), ("a",), None)
        self.check(("one", ("copy", 3)), (1,), (0,))
        self.check(("rowof", ("first", 1)), ("a",), ())
        self.check(("rowof", ("copy", 2)), (1,), ())

    def test_zeros_and_blanks_are_something(self):
        worth = ("", ("",), (0,), 0)
        self.assertEqual([worked(("is", 1), worth), worked(("is", 2), worth)], [1, 1])
        self.assertEqual([worked(("first", 1), worth), worked(("else", ("copy", 2), ("say", 1)), worth)], [("",), 0])
        self.assertEqual(worked(("else", ("first", 1), ("say", "d")), worth), "")

    def test_in_one_another(self):
        choice = ("when", ("else", ("copy", 2), ("say", 0)), (("else", ("say", None), ("copy", 0)), ("say", "one")))
        self.check(choice, "one", "")
        self.check(("one", ("else", ("when", ("is", 1), (("say", None), ("first", 1))), choice)), ("a",), ("",))

    def test_by_chance(self):
        for seed in range(400):
            chance = chance_of(seed)
            form, kind = any_form(chance), chance.choice(KINDS)
            expression, worth = any_expression(chance, form, kind, 6), any_worth(chance, form)
            value = worked(expression, worth)
            self.assertEqual(value, told_worked(expression, worth))
            self.assertNotIsInstance(value, bool)
            self.assertEqual(worked(expression, worth), value)


class Measured(unittest.TestCase):
    def test_parts(self):
        many = {("copy", 0): 1, ("say", "x"): 1, ("is", 1): 1, ("first", 1): 1, ("some", ("copy", 0)): 2,
                ("table", ("copy", 3), (0, 1)): 2, ("else", ("copy", 2), ("copy", 3)): 3,
                ("when", ("copy", 3), (("say", ""), ("say", ""))): 4,
                ("one", ("else", ("first", 1), ("when", ("is", 1), (("say", ""), ("copy", 0))))): 7}
        for expression, count in many.items():
            self.assertEqual(parts_many(expression), count)

    def test_deep(self):
        for expression, depth in ((("copy", 0), 1), (("some", ("copy", 0)), 2), (("else", ("first", 1), ("say", "")), 2),
                                  (("when", ("copy", 3), (("say", ""), ("else", ("first", 1), ("say", "")))), 3),
                                  (("when", ("table", ("copy", 3), (0, 0)), (("say", ""),)), 3)):
            self.assertEqual(deep(expression), depth)

    def test_reads(self):
        for expression, fields in ((("say", "x"), ()), (("copy", 3), (3,)), (("is", 2), (2,)), (("first", 1), (1,)),
                                   (("when", ("is", 2), (("copy", 0), ("else", ("first", 1), ("copy", 0)))), (0, 1, 2))):
            self.assertEqual(reads(expression), fields)

    def test_by_chance(self):
        for seed in range(300):
            chance = chance_of(seed)
            form = any_form(chance)
            expression = any_expression(chance, form, chance.choice(KINDS), 7)
            level, levels = [expression], []
            while level:
                levels.append(level)
                level = [other for part in level for other in inner(part)]
            parts = [part for row in levels for part in row]
            self.assertEqual(deep(expression), len(levels))
            self.assertEqual(parts_many(expression), len(parts))
            read = {part[1] for part in parts if part[0] in ("copy", "is", "first")}
            self.assertEqual(reads(expression), tuple(sorted(read)))


class PutIn(unittest.TestCase):
    turn = (("say", "n"), ("rowof", ("first", 1)), ("some", ("copy", 3)), ("is", 1))

    def test_copy_and_what_stays(self):
        self.assertEqual(put_in(("copy", 3), self.turn), ("is", 1))
        self.assertEqual(put_in(("say", "x"), self.turn), ("say", "x"))
        self.assertEqual(put_in(("when", ("copy", 3), (("copy", 0), ("say", "x"))), self.turn),
                         ("when", ("is", 1), (("say", "n"), ("say", "x"))))
        self.assertEqual(put_in(("else", ("copy", 2), ("copy", 3)), self.turn), ("else", ("some", ("copy", 3)), ("is", 1)))
        self.assertEqual(put_in(("table", ("copy", 3), (1, 0)), self.turn), ("table", ("is", 1), (1, 0)))
        self.assertEqual(put_in(("some", ("copy", 0)), self.turn), ("some", ("say", "n")))
        self.assertEqual(put_in(("one", ("copy", 0)), self.turn), ("one", ("say", "n")))
        self.assertEqual(put_in(("rowof", ("copy", 2)), self.turn), ("rowof", ("some", ("copy", 3))))

    def is_of(self, part):
        return put_in(("is", 0), (part,))

    def first_of(self, part):
        return put_in(("first", 0), (part,))

    def test_is(self):
        self.assertEqual(self.is_of(("copy", 2)), ("is", 2))
        self.assertEqual(self.is_of(("first", 1)), ("is", 1))
        for value, answer in ((None, 0), ((), 0), ((0,), 1), (("",), 1), ((1, 1), 1)):
            self.assertEqual(self.is_of(("say", value)), ("say", answer))
        self.assertEqual(self.is_of(("some", ("copy", 3))), ("say", 1))
        self.assertEqual(self.is_of(("one", ("copy", 3))), ("say", 1))
        self.assertEqual(self.is_of(("rowof", ("copy", 2))), ("is", 2))
        self.assertEqual(self.is_of(("rowof", ("some", ("copy", 3)))), ("say", 1))
        self.assertEqual(self.is_of(("when", ("is", 1), (("say", None), ("first", 1)))),
                         ("when", ("is", 1), (("say", 0), ("is", 1))))
        self.assertEqual(self.is_of(("rowof", ("when", ("copy", 3), (("copy", 2), ("some", ("copy", 3)))))),
                         ("when", ("copy", 3), (("is", 2), ("say", 1))))

    def test_first(self):
        self.assertEqual(self.first_of(("copy", 1)), ("first", 1))
        for value, answer in (((), None), (("",), ("",)), (("a", "b"), ("a",)), ((0, 1), (0,))):
            self.assertEqual(self.first_of(("say", value)), ("say", answer))
        self.assertEqual(self.first_of(("one", ("copy", 0))), ("some", ("copy", 0)))
        self.assertEqual(self.first_of(("rowof", ("first", 1))), ("first", 1))
        part = ("when", ("copy", 3), (("copy", 1), ("when", ("is", 1), (("say", ()), ("one", ("copy", 0))))))
        self.assertEqual(self.first_of(part), ("when", ("copy", 3), (
            ("first", 1), ("when", ("is", 1), (("say", None), ("some", ("copy", 0)))))))

    def test_by_chance(self):
        for seed in range(500):
            chance = chance_of(seed)
            form, middle, kind = any_form(chance), any_form(chance), chance.choice(KINDS)
            turn, expression = any_turn(chance, form, middle, 4), any_expression(chance, middle, kind, 5)
            made = put_in(expression, turn)
            self.assertEqual(made, told_put_in(expression, turn))
            self.assertTrue(is_expression(form, kind, made))
            for _ in range(5):
                worth = any_worth(chance, form)
                outcome = tuple(told_worked(part, worth) for part in turn)
                self.assertEqual(worked(made, worth), worked(expression, outcome))

    def test_again_and_again(self):
        part, turn = ("copy", 0), (("table", ("copy", 0), (1, 0)),)
        for _ in range(2001):
            part = put_in(turn[0], (part,))
        self.assertEqual([deep(part), parts_many(part), reads(part)], [2002, 2002, (0,)])
        self.assertEqual([worked(part, (0,)), worked(part, (1,))], [1, 0])
        row = ("copy", 1)
        for _ in range(2000):
            row = ("when", ("say", 0), (row,))
        for sort in ("is", "first"):
            made = put_in((sort, 0), (row,))
            self.assertEqual(deep(made), 2001)


if __name__ == "__main__":
    unittest.main()
