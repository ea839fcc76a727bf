"""[15] The writings."""

import unittest

from wherebeen.texts import (show_expression, show_form, show_house, show_turn, show_value, show_way, show_worth)

WORD, TWO, FOUR = ("word",), ("pick", 2), ("pick", 4)
FORM = (("name", WORD), ("tags", ("row", WORD)), ("mark", ("maybe", TWO)), ("side", TWO), ("first", ("maybe", WORD)))


class Values(unittest.TestCase):
    def check(self, kind, rows):
        for value, text in rows:
            self.assertEqual(show_value(kind, value), text)

    def test_words(self):
        self.check(WORD, [("", '""'), ("a b", '"a b"'), ('"', '""""'), ('a""b', '"a""""b"'), ("#~\\", '"#~\\"')])

    def test_picks(self):
        self.check(FOUR, [(0, "0"), (3, "3")])

    def test_maybes(self):
        self.check(("maybe", FOUR), [(None, "-"), ((2,), "some 2")])
        self.check(("maybe", WORD), [(None, "-"), (("-",), 'some "-"'), (("",), 'some ""')])

    def test_rows(self):
        self.check(("row", FOUR), [((), "[ ]"), ((2,), "[ 2 ]"), ((2, 0, 2), "[ 2 0 2 ]")])
        self.check(("row", WORD), [((), "[ ]"), (("]", ""), '[ "]" "" ]')])


class Expressions(unittest.TestCase):
    def check(self, kind, expression, text):
        self.assertEqual(show_expression(FORM, kind, expression), text)

    def test_each_sort(self):
        self.check(WORD, ("copy", 0), "copy name")
        self.check(WORD, ("say", 'a "'), 'say "a """')
        self.check(TWO, ("say", 1), "say 1")
        self.check(("maybe", TWO), ("say", None), "say -")
        self.check(("maybe", WORD), ("say", ("x",)), 'say some "x"')
        self.check(("row", TWO), ("say", ()), "say [ ]")
        self.check(("row", TWO), ("say", (1, 0)), "say [ 1 0 ]")
        self.check(WORD, ("when", ("copy", 3), (("copy", 0), ("say", ""))), 'when 2 copy side copy name say ""')
        self.check(WORD, ("when", ("say", 0), (("copy", 0),)), "when 1 say 0 copy name")
        self.check(TWO, ("else", ("copy", 2), ("is", 1)), "else copy mark is tags")
        self.check(FOUR, ("table", ("copy", 3), (3, 0)), "table [ 3 0 ] copy side")
        self.check(TWO, ("is", 4), "is first")
        self.check(("maybe", WORD), ("some", ("copy", 0)), "some copy name")
        self.check(("maybe", WORD), ("first", 1), "first tags")
        self.check(("row", WORD), ("one", ("copy", 0)), "one copy name")
        self.check(("row", WORD), ("rowof", ("first", 1)), "rowof first tags")

    def test_order_of_what_is_in_one(self):
        inner = ("when", ("is", 1), (("copy", 0), ("else", ("copy", 4), ("say", "z"))))
        self.check(WORD, ("when", ("table", ("copy", 3), (1, 2)), (("say", "a"), inner, ("say", "c"))),
                   'when 3 table [ 1 2 ] copy side say "a" when 2 is tags copy name else copy first say "z" say "c"')

    def test_deep(self):
        part = ("copy", 3)
        for _ in range(2000):
            part = ("table", part, (1, 0))
        self.assertEqual(show_expression(FORM, TWO, part), "table [ 1 0 ] " * 2000 + "copy side")


class Texts(unittest.TestCase):
    def test_form(self):
        self.assertEqual(show_form(FORM), "field name word\nfield tags row word\nfield mark maybe pick 2\n"
                                          "field side pick 2\nfield first maybe word")
        self.assertEqual(show_form((("r", ("row", ("pick", 1))),)), "field r row pick 1")

    def test_worth(self):
        self.assertEqual(show_worth(FORM, ("x", ("a",), None, 1, ("y",))),
                         'name "x"\ntags [ "a" ]\nmark -\nside 1\nfirst some "y"')

    def test_turn(self):
        other = (("a", ("maybe", WORD)), ("b", TWO))
        self.assertEqual(show_turn(FORM, other, (("first", 1), ("is", 1))), "a first tags\nb is tags")

    def test_way(self):
        self.assertEqual([show_way((0,)), show_way((0, 1, 0, 5))], ["0", "0 1 0 5"])

    def test_house(self):
        one, other = (("a", WORD), ("b", TWO)), (("c", ("row", WORD)),)
        there, back = (("one", ("copy", 0)),), (("say", ""), ("is", 0))
        house = ((one, other, one), ((0, 1, there, back), (1, 2, back, there)))
        self.assertEqual(show_house(house), "\n".join([
            "form", "field a word", "field b pick 2", "form", "field c row word", "form", "field a word", "field b pick 2",
            "road 0 1", "there c one copy a", 'back a say ""', "back b is c",
            "road 1 2", 'there a say ""', "there b is c", "back c one copy a"]))
        self.assertEqual(show_house(((other,), ())), "form\nfield c row word")


if __name__ == "__main__":
    unittest.main()
