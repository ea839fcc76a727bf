"""[16] Reading: what is shown is read back, the same loosely written, BAD lines, what lacks, wrong arguments."""

import unittest

from samples import (KINDS, any_expression, any_form, any_house, any_turn, any_value, any_way, any_worth, chance_of,
                     things)
from wherebeen.errors import NoText, Wrong
from wherebeen.reader import read_form, read_house, read_turn, read_value, read_way, read_worth
from wherebeen.texts import show_form, show_house, show_turn, show_value, show_way, show_worth

WORD, TWO, THREE = ("word",), ("pick", 2), ("pick", 3)
FORM = (("name", WORD), ("tags", ("row", WORD)), ("mark", ("maybe", TWO)), ("side", TWO))
PICK = (("p", TWO),)
COPY = (("copy", 0),)


def loosened(chance, text):
    """The same text with more blanks, remarks and lines without tokens; and the new index of each line."""
    lines, at = [], []
    for line in text.split("\n"):
        while chance.random() < 0.3:
            lines.append(chance.choice(["", "   ", "# one \" two", "  #", "#form"]))
        at.append(len(lines))
        quoted = False
        loose = chance.choice(["", "", "  "])
        for sign in line:
            quoted = quoted != (sign == '"')
            loose += sign + (" " * chance.choice((0, 0, 1, 3)) if sign == " " and not quoted else "")
        lines.append(loose + chance.choice(["", "", " ", "#", " # x", '#"', ' #" "']))
    while chance.random() < 0.3:
        lines.append(chance.choice(["", " ", "# end"]))
    return "\n".join(lines), at


class Reading(unittest.TestCase):
    def bad(self, line, call, *given):
        with self.assertRaises(NoText) as caught:
            call(*given)
        self.assertEqual(caught.exception.line, line, given[-1])
        self.assertNotIsInstance(caught.exception.line, bool)


class ReadBack(Reading):
    def both(self, chance, call, given, thing, text):
        self.assertEqual(call(*given, text), thing, text)
        loose, _ = loosened(chance, text)
        self.assertEqual(call(*given, loose), thing, loose)
        self.assertEqual(call(*given, loose), thing, loose)

    def test_by_chance(self):
        for seed in range(300):
            chance = chance_of(seed)
            kind, form, other = chance.choice(KINDS), any_form(chance), any_form(chance)
            value, worth, turn = any_value(chance, kind), any_worth(chance, form), any_turn(chance, form, other)
            self.both(chance, read_value, (kind,), value, show_value(kind, value))
            self.both(chance, read_form, (), form, show_form(form))
            self.both(chance, read_worth, (form,), worth, show_worth(form, worth))
            self.both(chance, read_turn, (form, other), turn, show_turn(form, other, turn))

    def test_houses_by_chance(self):
        for seed in range(60):
            chance = chance_of(seed)
            house = any_house(chance)
            self.both(chance, read_house, (), house, show_house(house))
            way = any_way(chance, house, chance.randrange(len(house[0])), 9)
            self.both(chance, read_way, (house,), way, show_way(way))

    def test_lines_in_other_orders(self):
        for seed in range(60):
            chance = chance_of(seed)
            form, other = any_form(chance), any_form(chance)
            worth, turn = any_worth(chance, form), any_turn(chance, form, other)
            lines = show_worth(form, worth).split("\n")
            chance.shuffle(lines)
            self.assertEqual(read_worth(form, "\n".join(lines)), worth)
            lines = show_turn(form, other, turn).split("\n")
            chance.shuffle(lines)
            self.assertEqual(read_turn(form, other, "\n".join(lines)), turn)

    def test_roads_in_other_orders(self):
        for seed in range(60):
            chance = chance_of(seed)
            house = any_house(chance)
            ahead, *roads = show_house(house).split("\nroad ")
            chance.shuffle(roads)
            text = ahead
            for road in roads:
                pair, *lines = road.split("\n")
                chance.shuffle(lines)
                text += "\nroad " + "\n".join([pair] + lines)
            self.assertEqual(read_house(text), house)

    def test_a_word_broken_makes_its_line_bad(self):
        for seed in range(100):
            chance = chance_of(seed)
            house = any_house(chance, spots=3)
            text, at = loosened(chance, show_house(house))
            lines = text.split("\n")
            line = chance.choice(at)
            lines[line] = lines[line].replace("#", " ").replace('"', " ") + '"x'
            lines += ["nothing of this sort"]
            self.bad(line, read_house, "\n".join(lines))


class Tokens(Reading):
    def test_quotes(self):
        for text, value in (('""', ""), ('""""', '"'), ('"a""b"', 'a"b'), ('""""""', '""'), ('"a b"', "a b"), ('"#"', "#"),
                            ('  " x "#"', " x "), ('"""#"""', '"#"'), ('"~"', "~"), ("\n\n\"a\"\n", "a")):
            self.assertEqual(read_value(WORD, text), value)

    def test_not_closed(self):
        for text in ('"', '"a', ' "a', '  "', ' "a""', '"""', '"a""', '"a # "" b', '"a\n"'):
            self.bad(0, read_value, WORD, text)
        self.bad(2, read_value, WORD, '\n#\n"a')

    def test_a_token_directly_beside_a_word(self):
        for text in ('"a"b', 'b"a"', '"a"-', '"a" b"c"', '"a"]', '"a"  "b', "a\"b"):
            self.bad(0, read_value, WORD, text)
        kind = ("row", WORD)
        for text in ('["a" ]', '[ "a"]', '["a"]', '[ "a" "b"c ]', "[]", "[ a ]"):
            self.bad(0, read_value, kind, text)
        self.assertEqual(read_value(kind, '[ "a" "b""" ]#]'), ("a", 'b"'))
        self.assertEqual(read_value(kind, '[ "a" "b" "" ] # "'), ("a", "b", ""))
        self.bad(0, read_value, ("maybe", WORD), 'some"a"')

    def test_remarks(self):
        self.assertEqual(read_value(TWO, "1#0"), 1)
        self.assertEqual(read_value(TWO, "#0\n1 # 0 \"\n#"), 1)
        self.bad(0, read_value, TWO, "1 0 # 0")
        self.bad(0, read_value, ("row", TWO), "[ 1 # ]")

    def test_only_line_feeds_part_lines_and_only_blanks_tokens(self):
        for text in ("1\t", "\t1", "1\r", "1\x0b", "1\x0c0"):
            self.bad(0, read_value, TWO, text)


class Values(Reading):
    def test_what_is_no_value(self):
        for kind, texts in ((WORD, ["a", "-", "1", '"1234567890123"', 'some "a"', '[ "a" ]', '"a" "b"', '"a" 1']),
                            (TWO, ["2", "-1", "01", "+1", "00", "-0", "1.0", '"1"', "1 1", "True", "", "some 1", "[ 1 ]"]),
                            (("maybe", TWO), ["1", "some", "some 2", "- 1", "some -", "some 1 1", "[ 1 ]", '"-"', "-1"]),
                            (("maybe", WORD), ["some", "some a", '"a"', "some some \"a\"", '"some" "a"', "some \"a\" -"]),
                            (("row", TWO), ["[", "]", "[ 1", "[ 1 2 ]", "1", "[ 1 ] ]", "[ 1 ] 1", '"[" ]', "[ - ]", "-", "some 1"]),
                            (("row", WORD), ['some "a"', '[ "a"', '[ "a" "]"', '"a" ]', "[ some \"a\" ]", '"a"'])):
            for text in texts:
                if text:
                    self.bad(0, read_value, kind, text)
                    self.bad(1, read_value, kind, "#\n" + text)

    def test_a_later_line(self):
        self.bad(1, read_value, TWO, "1\n1")
        self.bad(3, read_value, TWO, "1\n\n #\n\"")
        self.bad(0, read_value, TWO, "2\n\"")
        self.assertEqual(read_value(("maybe", TWO), "-\n# -"), None)
        self.bad(1, read_value, ("maybe", TWO), "-\n-")

    def test_lacking(self):
        for text, many in (("", 1), (" ", 1), ("\n", 2), ("#", 1), ("# 1\n \n\n", 4)):
            self.bad(many, read_value, TWO, text)
            self.bad(many, read_value, ("maybe", TWO), text)


class Ways(Reading):
    house = ((PICK,) * 3, ((0, 1, COPY, COPY), (1, 2, COPY, COPY)))

    def test_right(self):
        for text, way in (("0", (0,)), ("0 1 2 1", (0, 1, 2, 1)), ("\n 2  1 # 0", (2, 1))):
            self.assertEqual(read_way(self.house, text), way)

    def test_bad(self):
        for text in ("3", "-1", "0 2", "0 0", "0 01", "00", "0,1", '"0"', "0 1 x", "0 1 \"", "1" * 5000):
            self.bad(0, read_way, self.house, text)
        self.bad(1, read_way, self.house, "0 1\n1")
        self.bad(0, read_way, self.house, "0 2\n1")

    def test_lacking(self):
        for text, many in (("", 1), ("#0\n", 2)):
            self.bad(many, read_way, self.house, text)


class Forms(Reading):
    def test_right(self):
        self.assertEqual(read_form("\nfield a  word # x\n#\n field b maybe pick 4"), (("a", WORD), ("b", ("maybe", ("pick", 4)))))
        self.assertEqual(read_form("field field row word"), (("field", ("row", WORD)),))

    def test_bad(self):
        for line in ("form", "field", "field b", "field B word", "field b wort", "field b pick", "field b pick 0",
                     "field b pick 5", "field b pick 01", "field b maybe", "field b maybe row word", "field b word word",
                     "field b pick 2 2", '"field" b word', 'field "b" word', 'field b "word"', "field b row", "b word",
                     "field toolongna word", "field a pick 2", "field b word \"", "fields b word", "field b pick two",
                     "field b row pick \"2\"", "field b word #\" \nfield b word"):
            bad_line = 2 + line.count("\n")
            self.bad(bad_line, read_form, "field a word\n\n" + line + "\nalso bad")

    def test_a_sixth(self):
        text = "\n".join(f"field {name} word" for name in "abcde")
        self.assertEqual(len(read_form(text)), 5)
        self.bad(6, read_form, text + "\n\nfield f word")

    def test_lacking(self):
        for text, many in (("", 1), ("# field a word", 1), ("\n\n", 3)):
            self.bad(many, read_form, text)


class Worths(Reading):
    lines = ['name "x"', 'tags [ "a" ]', "mark -", "side 1"]

    def test_right(self):
        self.assertEqual(read_worth(FORM, "\n".join(self.lines)), ("x", ("a",), None, 1))
        self.assertEqual(read_worth(FORM, "\n#\n".join(self.lines[::-1]) + "\n"), ("x", ("a",), None, 1))
        self.assertEqual(read_worth((("name", WORD),), 'name "a~"'), ("a~",))

    def test_bad(self):
        for line in ("other 1", "name", "name x", 'name "x" "y"', 'name "1234567890123"', '"side" 1', "1", "Name \"x\"",
                     "side 2", "side", "side 1 1", "side - ", 'side "1"'):
            self.bad(1, read_worth, FORM, "\n".join(["mark some 1", line, "side 7"]))

    def test_a_name_above(self):
        self.bad(4, read_worth, FORM, "\n".join(self.lines + ['name "x"']))
        self.bad(2, read_worth, FORM, "\n".join(["side 1", "", "side 1", "\""]))

    def test_lacking(self):
        for many in range(4):
            for lines in (self.lines[:many], self.lines[1:][:many]):
                text = "\n".join(lines)
                self.bad(text.count("\n") + 1, read_worth, FORM, text)
        self.bad(6, read_worth, FORM, "\n".join(self.lines[:3] + ["", "", "# side 1"]))


class Turns(Reading):
    other = (("word", WORD), ("pick", TWO), ("maybe", ("maybe", TWO)), ("row", ("row", WORD)))

    def one(self, name, kind, text):
        return read_turn(FORM, ((name, kind),), name + " " + text)

    def test_each_sort(self):
        for kind, text, expression in (
                (WORD, "copy name", ("copy", 0)), (WORD, 'say "copy"', ("say", "copy")), (TWO, "say 1", ("say", 1)),
                (("maybe", WORD), "say -", ("say", None)), (("maybe", WORD), 'say some "a"', ("say", ("a",))),
                (("row", TWO), "say [ 0 1 ]", ("say", (0, 1))), (("row", WORD), "say [ ]", ("say", ())),
                (WORD, 'when 2 copy side say "a" copy name', ("when", ("copy", 3), (("say", "a"), ("copy", 0)))),
                (TWO, "else copy mark copy side", ("else", ("copy", 2), ("copy", 3))),
                (THREE, "table [ 2 0 ] copy side", ("table", ("copy", 3), (2, 0))), (TWO, "is tags", ("is", 1)),
                (("maybe", TWO), "some copy side", ("some", ("copy", 3))), (("maybe", WORD), "first tags", ("first", 1)),
                (("row", WORD), "one copy name", ("one", ("copy", 0))),
                (("row", TWO), "rowof copy mark", ("rowof", ("copy", 2)))):
            self.assertEqual(self.one("z", kind, text), (expression,))

    def test_what_is_no_expression(self):
        for kind, texts in (
                (WORD, ["copy", "copy side", "copy zz", "copy 0", 'copy "name"', '"copy" name', "say a", 'say "a~"', "say 1",
                        'say "1234567890123"', 'say "a" "b"', "copy name copy name", "is tags", "first tags", "name",
                        'when 0 say 0', 'when 5 say 0 say "" say "" say "" say "" say ""', 'when 2 copy side say "a"',
                        'when 1 copy side say "a"', 'when 1 say 1 say "a"', "when copy side copy name",
                        "else copy name copy name", "else first tags", "else copy mark copy name", "some copy name",
                        'table [ "a" ] say 0', "some", "when 2", 'when 1 say 0 say "a" say "b"', "when 1 " * 5000]),
                (TWO, ["is name", "is side", "is", "table [ ] say 0", "table [ 1 0 ] say 2", "table [ 0 0 0 0 0 ] say 0",
                       "table [ 2 ] say 0", "table [ 1 0 copy side", "table copy side [ 1 0 ]", "say 2", "say True",
                       "copy mark", "table [ 1 ] copy side", "else copy side copy side"]),
                (THREE, ["is tags", "copy side", "else copy mark copy side"]),
                (("maybe", TWO), ["first tags", "some some copy side", "some copy name", "say 1", "one copy side",
                                  "else copy mark copy mark", "copy side", "say some", "say - -",
                                  "table [ 1 ] say 0", "table [ - ] say 0", "is mark"]),
                (("row", WORD), ["some copy name", "rowof copy tags", "rowof copy mark", "one first tags", 'say [ "~" ]',
                                 "say [ 1 ]", 'say [ "a"', "say ] [", "one one copy name", "table [ ] say 0",
                                 "table [ 0 ] say 0", 'table [ "a" ] say 0', "is tags", "else first tags say [ ]"])):
            for text in texts:
                self.bad(0, read_turn, FORM, (("z", kind),), "z " + text)

    def test_bad_lines(self):
        for line in ("other say 0", '"pick" say 0', "word say \"\"", "pick", "pick say 0 #\n\npick say 0"):
            bad_line = 1 + line.count("\n")
            self.bad(bad_line, read_turn, FORM, self.other, "word copy name\n" + line + "\nbad")

    def test_lacking(self):
        lines = ["word copy name", "pick copy side", "maybe copy mark", "row copy tags"]
        self.assertEqual(read_turn(FORM, self.other, "\n".join(lines)), (("copy", 0), ("copy", 3), ("copy", 2), ("copy", 1)))
        for lacking in range(4):
            text = "\n".join(lines[:lacking] + lines[lacking + 1:] + ["#"])
            self.bad(4, read_turn, FORM, self.other, text)
        self.bad(1, read_turn, FORM, self.other, "")

    def test_a_hundred_deep(self):
        expression = ("copy", 3)
        for _ in range(99):
            expression = ("table", expression, (1, 0))
        self.assertEqual(self.one("z", TWO, "table [ 1 0 ] " * 99 + "copy side"), (expression,))


HOUSE = ["form", "field a word", "field b pick 2", "form", "field c row word", "form", "field d pick 2",
         "road 0 1", "there c one copy a", 'back a say ""', "back b is c",
         "road 1 2", "there d is c", "back c say [ ]"]


class Houses(Reading):
    def test_right(self):
        one, other, last = (("a", WORD), ("b", TWO)), (("c", ("row", WORD)),), (("d", TWO),)
        house = ((one, other, last), ((0, 1, (("one", ("copy", 0)),), (("say", ""), ("is", 0))),
                                      (1, 2, (("is", 0),), (("say", ()),))))
        self.assertEqual(read_house("\n".join(HOUSE)), house)
        self.assertEqual(read_house("\n".join(HOUSE[:7] + HOUSE[11:] + ["#"] + HOUSE[7:8] + HOUSE[10:7:-1])), house)
        self.assertEqual(read_house("form\nfield a word"), (((("a", WORD),),), ()))

    def put(self, at, line, index=None, instead=False):
        """Puts a line ahead of a line of the house, or in its place, and asks for the index of the bad line."""
        lines = HOUSE[:at] + [line] + HOUSE[at + instead:]
        self.bad(at if index is None else index, read_house, "\n".join(lines))
        self.bad((at if index is None else index) + 2, read_house, "\n".join(["", "# form"] + lines))

    def test_no_such_line(self):
        for line in ("forms", '"form"', "form 1", "field", "roads 0 1", "0 1", '"', "a say \"\"", "road", "there", "Form"):
            for at in (0, 2, 8, 13, 14):
                self.put(at, line)

    def test_form_lines(self):
        self.put(7, "form", 8)
        self.put(14, "form")
        self.put(8, "form")
        self.put(0, "form", 1)
        self.put(1, "form")
        self.put(4, "form")
        self.bad(2, read_house, "form\n# none\nform")
        seven = "\n".join(["form\nfield a word"] * 7)
        self.bad(12, read_house, seven)

    def test_field_lines(self):
        self.put(0, "field a word")
        self.put(14, "field z word")
        self.put(8, "field z word")
        self.put(2, "field a pick 2")
        self.put(1, "field a wort", instead=True)
        self.bad(6, read_house, "\n".join(["form"] + [f"field {name} word" for name in "abcdef"]))
        self.assertEqual(read_house("form\nfield a word\nfield b word"), (((("a", WORD), ("b", WORD)),), ()))

    def test_road_lines(self):
        self.put(0, "road 0 1")
        self.put(4, "road 0 1")
        for pair in ("1 0", "0 0", "0 3", "2 3", "-1 1", "0", "0 1 2", "0 01", '"0" 1', "a b", "3 4"):
            self.put(7, "road " + pair, instead=True)
        self.put(11, "road 0 1", instead=True)
        self.put(14, "road 0 1")
        self.put(14, "road 1 2")
        for at in (9, 10):
            self.put(at, "road 0 2")
        self.put(8, "road 0 2")
        self.put(13, "road 0 2")
        self.bad(2, read_house, "form\nfield a word\nroad 0 1")

    def test_ten_roads(self):
        pairs = [(one, other) for one in range(5) for other in range(one + 1, 5)]
        lines = ["form", "field p pick 2"] * 5
        for one, other in pairs[:9]:
            lines += [f"road {one} {other}", "there p copy p", "back p copy p"]
        self.assertEqual(len(read_house("\n".join(lines))[1]), 9)
        self.bad(len(lines), read_house, "\n".join(lines + ["road 3 4", "bad"]))

    def test_turn_lines(self):
        for line in ("there c one copy a", 'back a say ""'):
            self.put(0, line)
            self.put(7, line)
        self.put(9, "there c say [ ]")
        self.put(10, 'back a say "x"')
        self.put(11, "back b say 0")
        self.put(12, "there c say [ ]")
        for line in ("there a copy a", "there c copy c", "there c", "there c one copy a copy a", "there", 'there "c" say [ ]',
                     "there c one copy b", 'there c one say "~"', "back c say [ ]", "back a copy a", "there c one"):
            self.put(8, line, instead=True)

    def test_lacking(self):
        self.bad(1, read_house, "")
        self.bad(2, read_house, "#form\n")
        self.bad(1, read_house, "form")
        self.bad(3, read_house, "form\n\n#field a word")
        self.assertEqual(len(read_house("\n".join(HOUSE[:3]))[0]), 1)
        for many in range(4, len(HOUSE)):
            self.bad(many, read_house, "\n".join(HOUSE[:many]))
        self.bad(12, read_house, "\n".join(HOUSE[:11]) + "\n")
        self.bad(13, read_house, "\n".join(HOUSE[:12] + HOUSE[13:]))

    def test_a_road_behind_one_that_lacks_a_line(self):
        for lacking in (8, 9, 10):
            self.bad(10, read_house, "\n".join(HOUSE[:lacking] + HOUSE[lacking + 1:]))

    def test_roads_that_do_not_join_all(self):
        lines = ["form", "field p pick 2"] * 4
        for one, other in ((0, 1), (2, 3)):
            lines += [f"road {one} {other}", "there p copy p", "back p copy p"]
        self.bad(len(lines), read_house, "\n".join(lines))
        lines += ["road 1 2", "there p copy p", "back p copy p"]
        self.assertEqual(len(read_house("\n".join(lines))[1]), 3)


class WrongArguments(Reading):
    def wrong(self, place, call, *given):
        with self.assertRaises(Wrong) as caught:
            call(*given)
        self.assertEqual(caught.exception.place, place, given)

    def test_any_values(self):
        house = ((PICK,), ())
        for thing in things() + ["field", 0, ("maybe", ("pick", True))]:
            self.wrong(0, read_value, thing, thing)
            self.wrong(0, read_value, thing, "x")
            self.wrong(0, read_way, thing, "0")
            self.wrong(0, read_worth, thing, thing)
            self.wrong(0, read_turn, thing, thing, thing)
            self.wrong(1, read_turn, FORM, thing, thing)
            self.wrong(1, read_turn, FORM, thing, "")
            if not isinstance(thing, str):
                self.wrong(0, read_form, thing)
                self.wrong(0, read_house, thing)
                self.wrong(1, read_value, WORD, thing)
                self.wrong(1, read_way, house, thing)
                self.wrong(1, read_worth, FORM, thing)
                self.wrong(2, read_turn, FORM, FORM, thing)

    def test_ahead_of_other_errors(self):
        self.wrong(0, read_value, ("pick", True), "bad")
        self.wrong(0, read_way, ((PICK, PICK), ()), "")
        self.wrong(0, read_worth, [list(field) for field in FORM], "")


class Deep(Reading):
    def test_expressions_of_sixty_parts(self):
        for seed in range(50):
            chance = chance_of(seed)
            form, kind = any_form(chance), chance.choice(KINDS)
            turn = (any_expression(chance, form, kind, 8),)
            other = (("z", kind),)
            self.assertEqual(read_turn(form, other, show_turn(form, other, turn)), turn)


if __name__ == "__main__":
    unittest.main()
