"""[12] What things are; [2] truths are no integers."""

import copy
import unittest

from samples import KINDS, any_expression, any_form, any_house, any_turn, any_way, any_worth, chance_of, things
from wherebeen.forms import (is_base, is_expression, is_form, is_house, is_integer, is_kind, is_name, is_turn, is_value,
                             is_way, is_worth)

WORD, TWO, FOUR = ("word",), ("pick", 2), ("pick", 4)
FORM = (("name", WORD), ("tags", ("row", WORD)), ("mark", ("maybe", TWO)), ("side", TWO), ("all", ("row", TWO)))
PICK = (("p", TWO),)
COPY, ZERO = (("copy", 0),), (("say", 0),)


def listed(thing):
    """The thing with lists for all tuples."""
    return [listed(item) for item in thing] if isinstance(thing, tuple) else thing


def exchanged(thing):
    """The thing with one part, at any depth, left out, twice, or exchanged for something that never stands there."""
    if not isinstance(thing, tuple):
        return [True, 10 ** 9, "a\n", "~" * 13, [thing], object()] if thing is not None else [True, "~" * 13, [], ()]
    found = [list(thing)]
    for index, item in enumerate(thing):
        found += [thing[:index] + (other,) + thing[index + 1:] for other in exchanged(item)]
    return found


class Small(unittest.TestCase):
    def check(self, function, right, wrong):
        for thing in right:
            self.assertIs(function(thing), True, thing)
        for thing in wrong + [True, False, None, [], {}, (), object(), ValueError()]:
            self.assertIs(function(thing), False, thing)

    def test_integers(self):
        self.check(is_integer, [0, -1, 10 ** 39], ["1", (1,), b"1"])

    def test_names(self):
        self.check(is_name, ["a", "z", "abcdefgh"], ["", "abcdefghi", "A", "a1", "a b", "a\n", "a_", "`", "{", ("a",)])

    def test_bases(self):
        right = [WORD] + [("pick", many) for many in range(1, 5)]
        wrong = [("pick", 0), ("pick", 5), ("pick", True), ("pick",), ("pick", "1"), ("word", 1), ["word"], "word",
                 ("pick", 1, 1), ("wort",), (WORD,), ("maybe", WORD), ([],), ("pick", None)]
        self.check(is_base, right, wrong)

    def test_kinds(self):
        right = list(KINDS)
        wrong = [("maybe",), ("row", ("row", WORD)), ("maybe", ("maybe", TWO)), ("maybe", ("pick", 0)), ("row", WORD, 1),
                 ["maybe", WORD], ("maybe", ["word"]), ("maybe", "word"), ("some", WORD), ({}, WORD), ("pick", True)]
        self.check(is_kind, right, wrong)

    def test_forms(self):
        right = [PICK, FORM, (("a", WORD), ("b", WORD))]
        wrong = [(("a", WORD), ("a", TWO)), FORM + (("sixth", WORD),), [("a", WORD)], (["a", WORD],), (("a",),),
                 (("a", WORD, 1),), (("A", WORD),), (("a", "word"),), ("a", WORD), ((["a"], WORD),), (("a", ("pick", 5)),)]
        self.check(is_form, right, wrong)


class Values(unittest.TestCase):
    def test_words(self):
        for right in ("", " ", "~", "123456789012", " ~" * 6, '"#\\'):
            self.assertIs(is_value(WORD, right), True)
        for wrong in ("1234567890123", "a\n", "\t", "\x7f", "\x1f", chr(233), 1, None, ("a",), b"a", True):
            self.assertIs(is_value(WORD, wrong), False)

    def test_picks(self):
        self.assertEqual([is_value(FOUR, thing) for thing in (-1, 0, 3, 4, True, False, "1", None, (1,))],
                         [False, True, True, False, False, False, False, False, False])

    def test_maybes(self):
        kind = ("maybe", TWO)
        self.assertEqual([is_value(kind, thing) for thing in (None, (0,), (1,), (2,), (True,), (), (0, 0), 0, [0], False)],
                         [True, True, True, False, False, False, False, False, False, False])

    def test_rows(self):
        kind = ("row", WORD)
        right = [(), ("",), ("a", "a"), ("x",) * 40]
        wrong = [None, "", ["a"], (1,), ("a", None), ("1234567890123",), (("a",),)]
        self.assertEqual([is_value(kind, thing) for thing in right + wrong], [True] * len(right) + [False] * len(wrong))

    def test_worths(self):
        right = ("x", ("a", "b"), (1,), 0, ())
        self.assertIs(is_worth(FORM, right), True)
        for wrong in exchanged(right) + [right[:4], right + (0,), listed(right), None, "x"]:
            self.assertIs(is_worth(FORM, wrong), False, wrong)


class Expressions(unittest.TestCase):
    def right(self, kind, thing):
        self.assertIs(is_expression(FORM, kind, thing), True, thing)

    def wrong(self, kind, thing):
        self.assertIs(is_expression(FORM, kind, thing), False, thing)

    def test_copy(self):
        for index, (_, kind) in enumerate(FORM):
            self.right(kind, ("copy", index))
        for thing in (1, 2, 3, 5, -5, False, "name", None, (0,)):
            self.wrong(WORD, ("copy", thing))
        self.wrong(TWO, ("copy", True))
        self.wrong(("maybe", WORD), ("copy", 2))

    def test_say(self):
        said = [(WORD, "abc"), (TWO, 1), (("maybe", WORD), None), (("maybe", WORD), ("",)), (("row", TWO), (0, 1, 0))]
        for kind, value in said:
            self.right(kind, ("say", value))
        for kind, value in ((WORD, "~"), (WORD, "a~b"), (WORD, "1234567890123"), (TWO, 2), (TWO, True), (WORD, None),
                            (("maybe", WORD), ("~",)), (("row", WORD), ("a", "~0")), (("row", TWO), [0]), (TWO, (0,))):
            self.wrong(kind, ("say", value))

    def test_when(self):
        self.right(WORD, ("when", ("copy", 3), (("copy", 0), ("say", "x"))))
        self.right(TWO, ("when", ("say", 0), (("copy", 3),)))
        self.right(TWO, ("when", ("say", 3), (("copy", 3),) * 4))
        self.wrong(TWO, ("when", ("say", 3), (("copy", 3),) * 5))
        self.wrong(TWO, ("when", ("say", 0), ()))
        self.wrong(WORD, ("when", ("copy", 3), (("copy", 0),) * 3))
        self.wrong(WORD, ("when", ("copy", 3), [("copy", 0), ("say", "x")]))
        self.wrong(WORD, ("when", ("copy", 3), (("copy", 0), ("copy", 3))))
        self.wrong(WORD, ("when", (("copy", 0), ("copy", 3))))
        self.wrong(WORD, ("when", ("copy", 0), (("copy", 0), ("copy", 0))))

    def test_else(self):
        self.right(TWO, ("else", ("copy", 2), ("copy", 3)))
        self.right(WORD, ("else", ("first", 1), ("say", "")))
        self.wrong(WORD, ("else", ("copy", 2), ("say", "")))
        self.wrong(TWO, ("else", ("copy", 3), ("copy", 3)))
        self.wrong(("maybe", TWO), ("else", ("copy", 2), ("copy", 2)))
        self.wrong(("row", TWO), ("else", ("copy", 2), ("copy", 4)))
        self.wrong(TWO, ("else", ("copy", 2)))

    def test_table(self):
        self.right(FOUR, ("table", ("copy", 3), (3, 0)))
        self.right(TWO, ("table", ("say", 0), (1,)))
        self.wrong(TWO, ("table", ("copy", 3), (1, 2)))
        self.wrong(TWO, ("table", ("copy", 3), (1, True)))
        self.wrong(TWO, ("table", ("copy", 3), (1, 0, 1)))
        self.wrong(TWO, ("table", ("copy", 3), [1, 0]))
        self.wrong(TWO, ("table", ("copy", 3), ()))
        self.wrong(TWO, ("table", ("say", 0), (0,) * 5))
        self.wrong(WORD, ("table", ("copy", 3), ("a", "b")))
        self.wrong(("maybe", TWO), ("table", ("copy", 3), (None, None)))

    def test_is(self):
        for index in (1, 2, 4):
            self.right(TWO, ("is", index))
            self.wrong(("pick", 3), ("is", index))
        for index in (0, 3, 5, -1, True, ("copy", 1)):
            self.wrong(TWO, ("is", index))

    def test_some_first_one_rowof(self):
        self.right(("maybe", WORD), ("some", ("copy", 0)))
        self.right(("maybe", TWO), ("first", 4))
        self.right(("row", WORD), ("one", ("copy", 0)))
        self.right(("row", TWO), ("rowof", ("copy", 2)))
        self.wrong(("row", WORD), ("some", ("copy", 0)))
        self.wrong(("maybe", TWO), ("some", ("copy", 2)))
        self.wrong(("maybe", TWO), ("first", 1))
        self.wrong(("maybe", TWO), ("first", 2))
        self.wrong(TWO, ("first", 4))
        self.wrong(("maybe", TWO), ("first", True))
        self.wrong(("maybe", WORD), ("one", ("copy", 0)))
        self.wrong(("row", TWO), ("rowof", ("copy", 4)))
        self.wrong(("row", TWO), ("rowof", ("copy", 3)))

    def test_any_values(self):
        for kind in KINDS:
            for thing in things():
                self.wrong(kind, thing)
        self.wrong(WORD, ("sing", 0))
        self.wrong(WORD, ("copy", 0, 0))
        self.wrong(WORD, (["copy"], 0))

    def test_by_chance(self):
        for seed in range(300):
            chance = chance_of(seed)
            form, kind = any_form(chance), chance.choice(KINDS)
            thing = any_expression(chance, form, kind)
            self.assertIs(is_expression(form, kind, thing), True, (form, kind, thing))
            before = copy.deepcopy(listed(thing))
            self.assertIs(is_expression(form, kind, listed(thing)), False)
            self.assertEqual(listed(thing), before)
            for other in exchanged(thing):
                self.assertIs(is_expression(form, kind, other), False, (thing, other))

    def test_very_deep(self):
        thing = ("copy", 3)
        for _ in range(3000):
            thing = ("table", thing, (1, 0))
        self.assertIs(is_expression(FORM, TWO, thing), True)
        self.assertIs(is_expression(PICK, ("pick", 3), thing), False)


class Turns(unittest.TestCase):
    def test_turns(self):
        turn = (("copy", 0), ("one", ("copy", 0)), ("say", None), ("is", 1), ("copy", 4))
        self.assertIs(is_turn(FORM, FORM, turn), True)
        for wrong in [turn[:4], turn + (("say", 0),), listed(turn), turn[::-1], None] + exchanged(turn):
            self.assertIs(is_turn(FORM, FORM, wrong), False, wrong)
        self.assertIs(is_turn(FORM, PICK, (("copy", 3),)), True)
        self.assertIs(is_turn(PICK, FORM, (("copy", 3),)), False)
        self.assertIs(is_turn(PICK, PICK, ("copy", 0)), False)


class Houses(unittest.TestCase):
    def check(self, forms, roads, wanted):
        self.assertIs(is_house((forms, roads)), wanted, (forms, roads))

    def road(self, one, other):
        return (one, other, COPY, ZERO)

    def test_right(self):
        self.check((PICK,), (), True)
        self.check((PICK,) * 6, tuple(self.road(spot, spot + 1) for spot in range(5)), True)
        pairs = [(0, 1), (0, 2), (0, 3), (0, 4), (0, 5), (1, 2), (1, 3), (2, 3), (4, 5)]
        self.check((PICK,) * 6, tuple(self.road(*pair) for pair in pairs), True)
        self.check((PICK, FORM), ((0, 1, (("say", ""), ("say", ()), ("say", None), ("copy", 0), ("say", ())),
                                   (("copy", 3),)),), True)

    def test_forms(self):
        self.check((), (), False)
        self.check((PICK,) * 7, tuple(self.road(spot, spot + 1) for spot in range(6)), False)
        self.check([PICK], (), False)
        self.check((list(PICK),), (), False)
        self.check(((("p", ("pick", True)),),), (), False)

    def test_roads(self):
        two, three = (PICK, PICK), (PICK, PICK, PICK)
        self.check(two, (), False)
        self.check(two, [self.road(0, 1)], False)
        self.check(two, (list(self.road(0, 1)),), False)
        self.check(two, (self.road(1, 0),), False)
        self.check(two, (self.road(0, 0), self.road(0, 1)), False)
        self.check(two, (self.road(0, 2),), False)
        self.check(two, (self.road(-1, 1),), False)
        self.check(two, (self.road(0, True),), False)
        self.check(two, (self.road(False, 1),), False)
        self.check(two, (self.road(0, 1), self.road(0, 1)), False)
        self.check(two, ((0, 1, COPY),), False)
        self.check(two, ((0, 1, COPY, (("say", 2),)),), False)
        self.check(two, ((0, 1, (("copy", 1),), COPY),), False)
        self.check(two, (self.road(0, 1) + (0,),), False)
        self.check(three, (self.road(1, 2), self.road(0, 1)), False)
        self.check(three, (self.road(0, 1), self.road(1, 2)), True)
        self.check(three, (self.road(0, 1), self.road(0, 1), self.road(1, 2)), False)
        self.check(three, (self.road(0, 1),), False)
        self.check((PICK,) * 4, (self.road(0, 1), self.road(2, 3)), False)
        self.check((PICK,) * 4, (self.road(0, 3), self.road(1, 2), self.road(1, 3)), True)

    def test_ten_roads(self):
        pairs = [(one, other) for one in range(5) for other in range(one + 1, 5)]
        self.check((PICK,) * 5, tuple(self.road(*pair) for pair in pairs[:9]), True)
        self.check((PICK,) * 5, tuple(self.road(*pair) for pair in pairs), False)

    def test_by_chance(self):
        for seed in range(40):
            house = any_house(chance_of(seed), most=2, deepest=2)
            self.assertIs(is_house(house), True, house)
            self.assertIs(is_house(listed(house)), False)
            self.assertIs(is_house(house + ((),)), False)
            self.assertIs(is_house(house[:1]), False)

    def test_any_values(self):
        for thing in things():
            self.assertIs(is_house(thing), False)
            self.assertIs(is_house((thing, ())), False)
            self.assertIs(is_house(((PICK, PICK), thing)), False)
            self.assertIs(is_house(((PICK, PICK), (thing,))), False)
            self.assertIs(is_house(((PICK, PICK), ((0, thing, COPY, COPY),))), False)


class Ways(unittest.TestCase):
    house = ((PICK,) * 4, ((0, 1, COPY, COPY), (0, 2, COPY, COPY), (2, 3, COPY, COPY)))

    def test_right(self):
        for way in ((0,), (3,), (0, 1), (1, 0, 2, 3, 2), (0, 1) * 40):
            self.assertIs(is_way(self.house, way), True, way)

    def test_wrong(self):
        for way in ((), (4,), (-1,), (True,), (0, 3), (0, 0), (1, 2), (0, 1, 2), [0], [0, 1], (0, True), ("0",), (None,),
                    ((0,),), 0, None, "01", {0: 1}, (0, 1.0)):
            self.assertIs(is_way(self.house, way), False, way)
        for thing in things():
            self.assertIs(is_way(self.house, thing), False, thing)

    def test_by_chance(self):
        for seed in range(50):
            chance = chance_of(seed)
            house = any_house(chance, most=1, deepest=1)
            self.assertIs(is_way(house, any_way(chance, house, 0, 9)), True)


class ArgumentsStay(unittest.TestCase):
    def test_lists_handed_in(self):
        for function in (is_integer, is_name, is_base, is_kind, is_form, is_house):
            thing = [["a", ["word"]], [[[]], {"x": []}]]
            before = copy.deepcopy(thing)
            self.assertIs(function(thing), False)
            self.assertEqual(thing, before)

    def test_worths_by_chance(self):
        for seed in range(200):
            chance = chance_of(seed)
            form, other = any_form(chance), any_form(chance)
            self.assertIs(is_form(form), True)
            self.assertIs(is_worth(form, any_worth(chance, form)), True)
            self.assertIs(is_turn(form, other, any_turn(chance, form, other)), True)


if __name__ == "__main__":
    unittest.main()
