"""[5] Tests and their order; [19] what is told by them."""

import itertools
import unittest

from samples import WORD, any_form, any_turn, any_worth, chance_of
from wherebeen.errors import TooMany
from wherebeen.forms import is_worth
from wherebeen.probes import matters, parting_test, same_turns, tests_many, tests_of
from wherebeen.turns import plain_turn, turned

TWO = ("pick", 2)
FORM = (("name", WORD), ("tags", ("row", WORD)))
FEW_KINDS = (WORD, TWO, ("pick", 3), ("maybe", TWO), ("maybe", WORD), ("row", WORD), ("row", TWO), ("row", ("pick", 1)))
JUST = tuple((name, ("maybe", ("pick", 4))) for name in "abc") + (("d", ("pick", 4)), ("e", WORD))
MORE = tuple((name, ("row", ("pick", 4))) for name in "ab") + (("c", ("row", ("pick", 3))),)


def values_of(kind, words):
    """Values enough of a kind, rows up to three items, with these words."""
    base = kind[1] if kind[0] in ("maybe", "row") else kind
    items = list(words) if base == WORD else list(range(base[1]))
    if kind[0] == "maybe":
        return [None] + [(item,) for item in items]
    if kind[0] == "row":
        return [row for many in range(4) for row in itertools.product(items, repeat=many)]
    return items


def worths_of(form, words=("", "x", "say", "other")):
    return itertools.product(*[values_of(kind, words) for _, kind in form])


class Tests(unittest.TestCase):
    def alone(self, kind):
        return [test[0] for test in tests_of((("a", kind),))]

    def test_each_kind(self):
        self.assertEqual(self.alone(WORD), ["~0"])
        self.assertEqual(self.alone(("pick", 3)), [0, 1, 2])
        self.assertEqual(self.alone(("pick", 1)), [0])
        self.assertEqual(self.alone(("maybe", WORD)), [None, ("~0",)])
        self.assertEqual(self.alone(("maybe", TWO)), [None, (0,), (1,)])
        self.assertEqual(self.alone(("row", WORD)), [(), ("~0",), ("~0", "~0~")])
        self.assertEqual(self.alone(("row", ("pick", 1))), [(), (0,), (0, 0)])
        self.assertEqual(self.alone(("row", ("pick", 3))), [(), (0,), (1,), (2,), (0, 1), (1, 2), (2, 0)])

    def test_words_tell_their_fields(self):
        form = (("p", TWO), ("w", WORD), ("m", ("maybe", WORD)), ("r", ("row", WORD)), ("z", WORD))
        self.assertEqual(tests_of(form)[-1], (1, "~1", ("~2",), ("~3", "~3~"), "~4"))

    def test_order(self):
        self.assertEqual(tests_of(FORM), [("~0", ()), ("~0", ("~1",)), ("~0", ("~1", "~1~"))])
        form = (("a", TWO), ("b", ("maybe", TWO)))
        self.assertEqual(tests_of(form), [(0, None), (0, (0,)), (0, (1,)), (1, None), (1, (0,)), (1, (1,))])
        tests_of(form).clear()
        self.assertEqual(len(tests_of(form)), 6)

    def test_many(self):
        self.assertEqual([tests_many(JUST), tests_many(MORE)], [500, 567])
        self.assertEqual(tests_many(tuple((name, ("row", ("pick", 4))) for name in "abcde")), 59049)
        for seed in range(100):
            form = any_form(chance_of(seed), most=3)
            if tests_many(form) <= 500:
                tests = tests_of(form)
                self.assertEqual(len(tests), tests_many(form))
                self.assertEqual(len(set(tests)), len(tests))
                self.assertTrue(all(is_worth(form, test) for test in tests))

    def test_just_500(self):
        plain, other = plain_turn(JUST), plain_turn(JUST)[:4] + (("say", ""),)
        self.assertEqual(len(tests_of(JUST)), 500)
        self.assertIsNone(parting_test(JUST, plain, plain))
        self.assertIs(same_turns(JUST, plain, other), False)
        self.assertEqual(matters(JUST, other), ((0,), (1,), (2,), (3,), ()))

    def test_more_than_500(self):
        plain = plain_turn(MORE)
        for call in (lambda: tests_of(MORE), lambda: parting_test(MORE, plain, plain), lambda: same_turns(MORE, plain, plain),
                     lambda: same_turns(MORE, plain, (("say", ()),) * 3), lambda: matters(MORE, plain)):
            with self.assertRaises(TooMany) as caught:
                call()
            self.assertEqual(caught.exception.most, 500)

    def test_only_the_form_from_which_turns_lead_counts(self):
        one = (("p", TWO),)
        turn = (("say", ()),) * 3
        self.assertIs(same_turns(one, turn, turn), True)
        self.assertEqual(matters(one, turn), ((), (), ()))


class Parting(unittest.TestCase):
    def check(self, form, one, other, test):
        self.assertEqual(parting_test(form, one, other), test)
        self.assertEqual(parting_test(form, other, one), test)
        self.assertIs(same_turns(form, one, other), test is None)

    def test_the_first_one(self):
        form = (("a", TWO), ("b", TWO))
        self.check(form, (("copy", 0),), (("copy", 1),), (0, 1))
        self.check(form, (("copy", 0),), (("say", 1),), (0, 0))
        self.check(form, (("copy", 0),), (("say", 0),), (1, 0))

    def test_beyond_the_first_item(self):
        self.check(FORM, (("copy", 1),), (("rowof", ("first", 1)),), ("~0", ("~1", "~1~")))
        self.check((("r", ("row", TWO)),), (("copy", 0),), (("rowof", ("first", 0)),), ((0, 1),))
        one = (("r", ("row", ("pick", 1))),)
        self.check(one, (("copy", 0),), (("rowof", ("first", 0)),), ((0, 0),))

    def test_the_same_otherwise_written(self):
        form = (("p", TWO), ("m", ("maybe", WORD)))
        self.check(form, (("copy", 0),), (("table", ("copy", 0), (0, 1)),), None)
        self.check(form, (("copy", 0),), (("when", ("copy", 0), (("say", 0), ("say", 1))),), None)
        self.check(form, (("copy", 1),), (("when", ("is", 1), (("say", None), ("some", ("else", ("copy", 1), ("say", "")))))
                                          ,), None)

    def test_words(self):
        form = (("a", WORD), ("b", WORD))
        self.check(form, (("copy", 0),), (("copy", 1),), ("~0", "~1"))
        self.check(form, (("copy", 0),), (("say", ""),), ("~0", "~1"))

    def test_all_worths_by_chance(self):
        parted = 0
        for seed in range(400):
            chance = chance_of(seed)
            form, other = any_form(chance, FEW_KINDS, 3), any_form(chance, FEW_KINDS, 2)
            turns = [any_turn(chance, form, other, 3) for _ in range(2)]
            test = parting_test(form, *turns)
            wanted = [worth for worth in tests_of(form) if turned(turns[0], worth) != turned(turns[1], worth)]
            self.assertEqual(test, wanted[0] if wanted else None)
            parted += test is not None
            if test is None:
                for worth in itertools.islice(worths_of(form), 2000):
                    self.assertEqual(turned(turns[0], worth), turned(turns[1], worth))
        self.assertTrue(50 < parted < 390, parted)


class Matters(unittest.TestCase):
    def test_fields(self):
        swapped = (("else", ("first", 1), ("copy", 0)), ("one", ("copy", 0)))
        self.assertEqual(matters(FORM, swapped), ((0, 1), (0,)))
        self.assertEqual(matters(FORM, (("copy", 1), ("is", 1), ("first", 1), ("say", "")),), ((1,), (1,), (1,), ()))

    def test_words(self):
        self.assertEqual(matters((("a", WORD), ("b", ("maybe", WORD))), (("copy", 0), ("copy", 1), ("is", 1))),
                         ((0,), (1,), (1,)))

    def test_what_stands_in_it_and_does_not_matter(self):
        form = (("a", TWO), ("b", WORD), ("c", ("row", TWO)))
        same = (("when", ("copy", 0), (("copy", 1), ("copy", 1))), ("table", ("copy", 0), (1, 1)),
                ("else", ("some", ("say", "x")), ("copy", 1)), ("when", ("say", 1), (("copy", 1), ("say", ""))),
                ("table", ("is", 2), (0, 0)), ("else", ("first", 2), ("say", 0)))
        self.assertEqual(matters(form, same), ((1,), (), (), (), (), (2,)))

    def test_only_the_words(self):
        form = (("a", TWO), ("b", WORD), ("c", WORD))
        self.assertEqual(matters(form, (("when", ("copy", 0), (("copy", 2), ("copy", 1))),)), ((0, 1, 2),))

    def test_only_a_second_item(self):
        form = (("r", ("row", ("pick", 1))), ("s", ("row", WORD)))
        unlike = ("when", ("is", 0), (("say", ()), ("copy", 0)))
        self.assertEqual(matters(form, (unlike, ("copy", 1))), ((0,), (1,)))

    def test_by_chance(self):
        found = 0
        for seed in range(200):
            chance = chance_of(seed)
            form, other = any_form(chance, FEW_KINDS, 3), any_form(chance, FEW_KINDS, 3)
            turn = any_turn(chance, form, other, 3)
            wanted = [set() for _ in turn]
            worths = list(itertools.islice(worths_of(form), 3000))
            for at in range(len(form)):
                alike = {}
                for worth in worths:
                    alike.setdefault(worth[:at] + worth[at + 1:], []).append(turned(turn, worth))
                for rows in alike.values():
                    for field in range(len(turn)):
                        if any(row[field] != rows[0][field] for row in rows):
                            wanted[field].add(at)
            told = matters(form, turn)
            found += sum(map(len, told))
            if len(worths) < 3000:
                self.assertEqual(told, tuple(tuple(sorted(fields)) for fields in wanted), (form, turn))
        self.assertGreater(found, 100)

    def test_worths_by_chance(self):
        for seed in range(50):
            chance = chance_of(seed)
            form, other = any_form(chance, FEW_KINDS, 3), any_form(chance, FEW_KINDS, 3)
            turn, worth = any_turn(chance, form, other), any_worth(chance, form)
            told = matters(form, turn)
            for at in range(len(form)):
                like = worth[:at] + (any_worth(chance, form)[at],) + worth[at + 1:]
                for field, (value, its_value) in enumerate(zip(turned(turn, worth), turned(turn, like))):
                    self.assertTrue(value == its_value or at in told[field])


if __name__ == "__main__":
    unittest.main()
