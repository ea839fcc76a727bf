"""[64] A Book that is led by lines of text."""

import unittest

from goods import BITS, COPY, FLIP, FORK, LEFT, ONE, PICK, RIGHT, SIX_NINE, TWO, ZERO, alike_house, all_copied, good_house
from samples import WORD, any_way, any_worth, chance_of, things
from test_book import all_states, state
from test_faults import ALONE, ROAD
from test_homes import assert_guarded
from test_joining import full_house
from test_returns import CARDS, JUST_HOUSE, MORE_HOUSE, UNLIKE
from wherebeen.book import Book
from wherebeen.desk import Desk
from wherebeen.errors import NoCommand, NoText, NotKept, Nothing, Parted, TooMany, WayError, Wrong
from wherebeen.forms import is_expression
from wherebeen.newforms import with_form
from wherebeen.parted import parted_ways
from wherebeen.probes import tests_many
from wherebeen.texts import show_expression, show_house, show_value, show_way, show_worth
from wherebeen.ways import led, same_ways

ALL = (("w", WORD), ("p", ("pick", 3)), ("m", ("maybe", WORD)), ("n", ("maybe", TWO)), ("r", ("row", WORD)))
WIDE = alike_house(ALL, [(0, 1)], [all_copied(ALL)], 2)
CHANGING = ("copy form 0", "put 0 there a say 0 back a say 0", "put 1 there c copy c back c copy c", "drop road 1", "drop form 2", "sure 0 c",
            "sure 2 b")


def desk_of(house):
    return Desk(show_house(house))


class Desks(unittest.TestCase):
    def no_command(self, desk, *lines):
        before = all_states(desk.book())
        for line in lines:
            with self.assertRaises(NoCommand, msg=repr(line)):
                desk.execute(line)
        self.assertEqual(all_states(desk.book()), before)

    def done(self, desk, line, wanted):
        """Does a line, takes it back, and does it again."""
        before = all_states(desk.book())
        self.assertEqual(desk.execute(line), ["done"])
        self.assertEqual(state(desk.book()), wanted)
        self.assertEqual(desk.execute("undo"), ["done"])
        self.assertEqual(all_states(desk.book()), before)
        self.assertEqual(desk.execute(line), ["done"])

    def refused(self, desk, line):
        before = all_states(desk.book())
        self.assertEqual(desk.execute(line), ["refused"])
        self.assertEqual(all_states(desk.book()), before)


class Making(Desks):
    def test_of_texts(self):
        for house in (ALONE, FORK, CARDS, WIDE, JUST_HOUSE):
            self.assertEqual(state(desk_of(house).book()), (house, []))
        self.assertEqual(desk_of(FORK).execute("house"), show_house(FORK).split("\n"))

    def test_methods_stand_in_the_class(self):
        for name in ("execute", "book"):
            self.assertIn(name, vars(Desk))

    def test_wrong(self):
        for thing in things() + [Book(FORK), FORK, ["form"], 0]:
            if not isinstance(thing, str):
                with self.assertRaises(Wrong) as caught:
                    Desk(thing)
                self.assertEqual(caught.exception.place, 0)

    def test_no_text(self):
        text = show_house(FORK)
        for given, line in (("", 1), ("form\nfield a word\nform", 3), ("form\nfield a word\nhouse", 2), (text + "\nback", text.count("\n") + 1),
                            (text.replace("road 0 2", "road 0 3"), text.split("\n").index("road 0 2")),
                            ("\n\n#\nform", 4), ('form\nfield "a" word', 1)):
            with self.assertRaises(NoText) as caught:
                Desk(given)
            self.assertEqual(caught.exception.line, line, given)

    def test_few_then_parted(self):
        assert_guarded(self, (desk_of,))
        for house in (ROAD, UNLIKE):
            with self.assertRaises(Parted) as caught:
                desk_of(house)
            self.assertEqual((caught.exception.worth, caught.exception.way, caught.exception.other), parted_ways(house))
        with self.assertRaises(TooMany):
            desk_of(MORE_HOUSE)

    def test_book_is_a_twin(self):
        desk = desk_of(FORK)
        desk.execute("sure 0 c")
        book = desk.book()
        self.assertIsInstance(book, Book)
        book.withdraw(0)
        book.drop_form(2)
        self.assertEqual(state(desk.book()), (FORK, [("sure", 0, "c")]))
        book = desk.book()
        book.undo()
        with self.assertRaises(Nothing):
            book.undo()
        self.assertEqual(desk.execute("promises"), ["sure 0 c"])


class Changes(Desks):
    def test_copy_form(self):
        desk = desk_of(CARDS)
        plain = tuple(all_copied(form) for form in CARDS[0])
        first = with_form(CARDS, 1, CARDS[0][1], plain[1], plain[1])
        self.done(desk, "copy form 1", (first, []))
        self.done(desk, "copy form 2", (with_form(first, 2, first[0][2], plain[1], plain[1]), []))
        self.done(desk, "copy form 0", (with_form(desk.book().house_now(), 0, CARDS[0][0], plain[0], plain[0]), []))
        self.assertEqual(desk.execute("copy form 0"), ["done"])
        self.refused(desk, "copy form 0")
        self.refused(desk_of(full_house(5, 9)), "copy form 4")
        self.no_command(desk, "copy form 6", "copy form", "copy form 0 0", "copy 0", "copy form -1", "copy form a", "form 0", "copyform 0")

    def test_put(self):
        desk = desk_of(FORK)
        road = (0, 1, (("copy", 0), ("copy", 1), ("copy", 2)), (("copy", 0), ("copy", 1), ("copy", 2)))
        self.done(desk, "put 0 there a copy a back a copy a", ((FORK[0], (road, FORK[1][1])), []))
        self.done(desk, 'put 1 there c say "x" back c say "x"', ((FORK[0], (road, (0, 2, RIGHT[:2] + (("say", "x"),),
                                                                                   RIGHT[:2] + (("say", "x"),)))), []))
        self.refused(desk, "put 0 there a copy a back a say 0")
        self.refused(desk, 'put 0 there c say "y" back c say "y"')
        self.assertEqual(desk.execute("sure 0 b"), ["refused"])
        self.assertEqual(desk.execute("put 1 there b copy b back b copy b"), ["done"])
        self.assertEqual(desk.execute("sure 0 b"), ["done"])
        self.refused(desk, "put 0 there b say 1 back b say 1")

    def test_put_of_unlike_forms(self):
        desk = desk_of(CARDS)
        there, back = (("copy", 0), ("say", None)), (("copy", 0), ("say", ()))
        self.done(desk, "put 0 there tag say - back tags say [ ]", ((CARDS[0], ((0, 1, there, back),)), []))
        # names of the form to which the turn leads, expressions by the one from which it comes
        self.no_command(desk, "put 0 there tags say [ ] back tag say -", "put 0 there tag first tag back tags say [ ]",
                        "put 0 there tag first tags back tags first tag", "put 0 there tag first tags back tags rowof copy tags")
        self.done(desk, "put 0 there tag first tags back tags rowof copy tag", (CARDS, []))
        self.no_command(desk, "put 0 there tag else first tags copy name back name copy name")

    def test_put_names_like_words(self):
        form = (("back", TWO), ("there", TWO))
        desk = desk_of(alike_house(form, [(0, 1)], [(("copy", 0), ("copy", 1))], 2))
        self.assertEqual(desk.execute("put 0 there back copy back back there copy there"), ["done"])
        self.assertEqual(desk.execute("put 0 there back when 2 copy back say 0 say 1 back back copy back"), ["done"])
        self.assertEqual(desk.book().house_now()[1][0][2][0], ("when", ("copy", 0), (("say", 0), ("say", 1))))

    def test_put_no_command(self):
        desk = desk_of(FORK)
        self.no_command(desk, "put 2 there a say 0 back a say 0", "put 0 there d say 0 back a say 0", "put 0 there a say 2 back a say 0",
                        "put 0 there a say 0 back d say 0", "put 0 there a say 0", "put 0 back a say 0 there a say 0", "put 0",
                        "put 0 there a say 0 back a say 0 0", "put 0 there a say 0 back a", "put 0 there a back a say 0",
                        'put 0 there c say "~" back c say ""', 'put 0 there c say "0123456789abc" back c say ""',
                        "put 0 there c copy a back c copy c", "put 0 there c say x back c copy c", "put 0 a say 0 a say 0",
                        'put 0 there c say "x back c say "x"', 'put 0 there c say "x""y" "z" back c copy c',
                        'put 0 "there" a say 0 back a say 0', 'put 0 there "a" say 0 back a say 0', 'put 0 there a "say" 0 back a say 0',
                        'put 0 there a say "0" back a say 0', "put 0 there a,say 0 back a say 0", "put 0 there a say 00 back a say 0")
        self.assertEqual(desk.execute('put 0 there c else some copy c say "" back c copy c'), ["done"])
        self.assertEqual(desk.execute('put 0 there c else some copy c say "no #" back c copy c # "'), ["done"])

    def test_drop(self):
        ring = alike_house(PICK, [(0, 1), (0, 2), (1, 2)], [COPY] * 3, 3)
        desk = desk_of(ring)
        self.done(desk, "drop road 1", ((ring[0], (ring[1][0], ring[1][2])), []))
        self.refused(desk, "drop road 0")
        self.refused(desk, "drop form 1")
        self.done(desk, "drop form 0", (((PICK, PICK), ((0, 1, COPY, COPY),)), []))
        self.no_command(desk, "drop road 1", "drop form 2", "drop 0", "drop", "drop road", "drop form", "drop form 0 1", "drop forms 0",
                        'drop "form" 0', "drop road 00")
        self.assertEqual(desk.execute("sure 1 p"), ["done"])
        self.refused(desk, "drop form 1")
        self.assertEqual(desk.execute("drop form 0"), ["done"])
        self.assertEqual(desk.execute("promises"), ["sure 0 p"])
        self.refused(desk, "drop form 0")
        self.no_command(desk, "drop road 0")

    def test_sure_and_withdraw(self):
        desk = desk_of(FORK)
        self.no_command(desk, "withdraw 0", "sure 0 d", "sure 3 c", "sure 0", "sure c", "sure 0 c c", 'sure 0 "c"', "sure c 0", "withdraw")
        self.done(desk, "sure 0 c", (FORK, [("sure", 0, "c")]))
        self.refused(desk, "sure 0 a")
        self.done(desk, "sure 0 c", (FORK, [("sure", 0, "c")] * 2))
        self.done(desk, "sure 2 c", (FORK, [("sure", 0, "c")] * 2 + [("sure", 2, "c")]))
        self.assertEqual(desk.execute("promises"), ["sure 0 c", "sure 0 c", "sure 2 c"])
        self.no_command(desk, "withdraw 3", "withdraw -1", "withdraw 0 0", "withdraw sure 0 c")
        self.done(desk, "withdraw 1", (FORK, [("sure", 0, "c"), ("sure", 2, "c")]))
        self.assertEqual([desk.execute("withdraw 0"), desk.execute("promises")], [["done"], ["sure 2 c"]])

    def test_ten_promises(self):
        desk = desk_of(FORK)
        for _ in range(12):
            desk.execute("sure 1 c")
        self.assertEqual([desk.execute("withdraw 11"), desk.execute("withdraw 10"), len(desk.execute("promises"))], [["done"], ["done"], 10])
        self.no_command(desk, "withdraw 10", "withdraw 09", "withdraw 1_0")

    def test_undo(self):
        desk = desk_of(FORK)
        self.refused(desk, "undo")
        desk.execute("sure 0 c")
        desk.execute("copy form 2")
        self.no_command(desk, "undo 0", "undo undo", "Undo", '"undo"', "undo,")
        self.assertEqual([desk.execute("undo"), state(desk.book())], [["done"], (FORK, [("sure", 0, "c")])])
        self.assertEqual([desk.execute("undo"), state(desk.book())], [["done"], (FORK, [])])
        self.refused(desk, "undo")


class Questions(Desks):
    def test_house_and_promises(self):
        for house in (ALONE, FORK, CARDS, WIDE):
            desk = desk_of(house)
            self.assertEqual(desk.execute("house"), show_house(house).split("\n"))
            self.assertEqual(desk.execute("promises"), [])
            self.no_command(desk, "house 0", "promises 0", "house house", "House", "promise", "house:")
        desk.execute("sure 1 m")
        self.assertEqual(desk.execute("promises"), ["sure 1 m"])
        self.assertEqual(desk.execute("house"), show_house(WIDE).split("\n"))

    def test_what_is_told_may_be_changed(self):
        desk = desk_of(FORK)
        desk.execute("sure 0 c")
        for line in ("house", "promises", 'lead 0 with 1 1 ""', "same 0 and 0", "sure 0 c"):
            told = desk.execute(line)
            kept = list(told)
            told.clear()
            self.assertEqual(desk.execute(line), kept)

    def test_lead(self):
        desk = desk_of(FORK)
        self.assertEqual(desk.execute('lead 0 1 0 with 1 1 "x"'), ["a 0", "b 1", 'c "x"'])
        self.assertEqual(desk.execute('lead 1 0 2 with 1 1 "a ""b"" #~"'), ["a 0", "b 0", 'c "a ""b"" #~"'])
        self.assertEqual(desk.execute('lead 2 with 1 0 ""'), ["a 1", "b 0", 'c ""'])
        desk = desk_of(CARDS)
        self.assertEqual(desk.execute('lead 0 1 with "x" [ "a" "b" ]'), ['name "x"', 'tag some "a"'])
        self.assertEqual(desk.execute('lead 0 1 0 with "x" [ ]'), ['name "x"', "tags [ ]"])
        self.assertEqual(desk.execute('lead 1 0 with "x" -'), ['name "x"', "tags [ ]"])
        desk = desk_of(WIDE)
        self.assertEqual(desk.execute('lead 0 1 with "w" 2 some "m" - [ "" "#" ]'), ['w "w"', "p 2", 'm some "m"', "n -", 'r [ "" "#" ]'])

    def test_lead_no_command(self):
        desk = desk_of(FORK)
        self.no_command(desk, 'lead with 1 1 "x"', 'lead 0 1 1 1 "x"', 'lead 1 2 with 1 1 "x"', 'lead 0 0 with 1 1 "x"', 'lead 3 with 1 1 "x"',
                        "lead 0 with 1 1", 'lead 0 with 1 1 "x" 1', 'lead 0 with 2 1 "x"', "lead 0 with 1 1 x", 'lead 0 with "1" 1 "x"',
                        "lead", "lead 0", "lead 0 1", 'lead 0 "with" 1 1 "x"', 'lead 0 1 and 1 1 "x"', 'lead 00 with 1 1 "x"',
                        'lead +0 with 1 1 "x"', 'lead -0 with 1 1 "x"', 'lead "0" with 1 1 "x"', 'lead 0 with 1 1 "0123456789abc"',
                        'lead 0 with 1 1 "x\ny"', 'lead 0 with 1 -0 "x"', 'lead 0 with 1 1 "x', 'lead 0 with 1 1 "x"y"', 'lead 0 with with 1 1 "x"')
        self.no_command(desk_of(CARDS), 'lead 0 with "x" ["a"]', 'lead 0 with "x" [ "a"', 'lead 0 with "x" -', 'lead 1 with "x" some',
                        'lead 1 with "x" [ ]', 'lead 1 with "x" some -', 'lead 0 with "x" [ a ]', 'lead 1 with "x" "a"')

    def test_same(self):
        desk = desk_of(FORK)
        for line, wanted in (("same 0 and 0", "yes"), ("same 0 1 0 and 0", "no"), ("same 0 1 0 and 0 1 0 1 0", "yes"),
                             ("same 0 1 0 2 0 and 0 2 0 1 0", "yes"), ("same 0 1 0 and 0 2 0", "no"), ("same 1 0 2 and 1 0 1 0 2", "yes"),
                             ("same 1 0 and 1 0 2 0", "no")):
            self.assertEqual(desk.execute(line), [wanted], line)
        self.assertEqual(desk_of(CARDS).execute("same 1 and 1 0 1"), ["yes"])
        self.assertEqual(desk_of(CARDS).execute("same 0 and 0 1 0"), ["no"])
        self.no_command(desk, "same 1 0 and 2 0", "same 1 and 0 1", "same 0 and 1", "same 0 1 and 0", "same 0 1 and 0 2", "same 0 1 and 2 1", "same 0", "same 0 and", "same and 0",
                        "same and", "same", "same 0 and 0 and 0", "same 0 1 2 and 0 2", "same 0 with 0", "same 0 1 0 0 1 0", "same 0 and 00",
                        'same 0 "and" 0', "same 3 and 3", "same 1 2 and 1 2")

    def test_by_chance(self):
        answers = []
        for seed in range(60):
            chance = chance_of(seed)
            house = good_house(chance, fields=3)
            if max(map(tests_many, house[0])) > 60:
                continue
            desk = desk_of(house)
            for _ in range(5):
                way, other = (any_way(chance, house, 0, 7) for _ in range(2))
                worth = any_worth(chance, house[0][0])
                values = " ".join(show_value(kind, value) for (_, kind), value in zip(house[0][0], worth))
                wanted = show_worth(house[0][way[-1]], led(house, way, worth)).split("\n")
                self.assertEqual(desk.execute(f"lead {show_way(way)} with {values}"), wanted)
                line = f"same {show_way(way)} and {show_way(other)}"
                if way[-1] == other[-1]:
                    self.assertEqual(desk.execute(line), ["yes" if same_ways(house, way, other) else "no"])
                    answers += desk.execute(line)
                else:
                    self.no_command(desk, line)
            self.puts(chance, desk, house)
        self.assertGreater(min(answers.count("yes"), answers.count("no")), 15)

    def puts(self, chance, desk, house):
        """Puts an expression that a road has anywhere it may stand, and may not."""
        for index, (one, other, there, back) in enumerate(house[1]):
            at, near = chance.randrange(len(there)), chance.randrange(len(back))
            for part in there:
                kind = house[0][other][at][1]
                if not is_expression(house[0][one], kind, part):
                    continue
                line = (f"put {index} there {house[0][other][at][0]} {show_expression(house[0][one], kind, part)} back "
                        f"{house[0][one][near][0]} {show_expression(house[0][other], house[0][one][near][1], back[near])}")
                road = (one, other, there[:at] + (part,) + there[at + 1:], back)
                told = (house[0], house[1][:index] + (road,) + house[1][index + 1:])
                book = Book(house)
                try:
                    book.put_road(index, *road[2:])
                except WayError:
                    self.assertEqual(desk.execute(line), ["refused"])
                else:
                    self.assertEqual(desk.execute(line), ["done"])
                    self.assertEqual(desk.book().house_now(), told)
                    desk.execute("undo")


class Lines(Desks):
    def test_wrong(self):
        desk = desk_of(FORK)
        for thing in things() + [desk, ["undo"], ("undo",), {"undo": 1}, 0]:
            if not isinstance(thing, str):
                with self.assertRaises(Wrong) as caught:
                    desk.execute(thing)
                self.assertEqual(caught.exception.place, 0)

    def test_no_token_and_unknown_words(self):
        self.no_command(desk_of(FORK), "", " ", "    ", "#", "  # undo", "#undo", "\n", "\n\n", " \n ", "# \n undo", "do", "help", "?", '""', '"',
                        "undo\\", "form", "field a word", "road 0 1", "execute undo", "book", "in", "0", "a\nb", "COPY form 0")

    def test_more_blanks_and_notes(self):
        desk = desk_of(FORK)
        for line in ("  sure   0  c  ", "sure 0 c#", "sure 0 c # as told", "sure 0 c#\nundo", "sure 0 c # \n\n x \" y", 'sure 0 c #"', "sure 0 c ##"):
            self.assertEqual(desk.execute(line), ["done"], line)
        self.assertEqual(len(desk.book().promises()), 7)
        self.assertEqual(desk.execute('lead 0 with 1 1 "#" # "x"'), ["a 1", "b 1", 'c "#"'])
        self.assertEqual(desk.execute('  lead 0 1   with 1 1 "  x "#'), ["a 0", "b 1", 'c "  x "'])
        self.no_command(desk, "sure 0 #c", "sure# 0 c", 'lead 0 with 1 1 # "x"', 'sure 0 c "#"', "# sure 0 c")

    def test_a_line_feed_is_no_blank(self):
        desk = desk_of(FORK)
        self.no_command(desk, "sure\n0 c", "sure 0 c\n", "\nsure 0 c", "sure 0\nc", "sure 0 c\n# x", "sure 0 c \n", "sure 0 c \n# x", "undo\n",
                        "house\n", "promises\n#", 'lead 0 with 1 1 "\n"', 'lead 0 with 1 1 "x"\n')
        self.assertEqual(desk.execute("sure 0 c #\n"), ["done"])
        self.assertEqual(desk.execute("undo#\n\n"), ["done"])
        self.assertEqual(desk.execute("house # \n promises"), show_house(FORK).split("\n"))

    def test_numbers_that_python_does_not_show_so(self):
        desk = desk_of(alike_house(PICK, SIX_NINE, [COPY] * 9))
        self.assertEqual(desk.execute("sure 1 p"), ["done"])
        for word in ("01", "+1", "-0", "00", "1.0", "1_", "0x1", "1e0", "--1", "", "one", "'1'", '"1"', "1,", "True", "10", "-1", "99999999999999999999"):
            self.no_command(desk, f"copy form {word}", f"drop road {word}", f"drop form {word}", f"sure {word} p", f"withdraw {word}",
                            f"put {word} there p copy p back p copy p", f"lead {word} with 1", f"same {word} and {word}")
        self.assertEqual(desk.execute("put 1 there p copy p back p copy p"), ["done"])

    def test_words_that_are_not_closed_behind_a_command(self):
        desk = desk_of(FORK)
        self.no_command(desk, 'undo "', 'house "x', 'sure 0 c "', 'undo"x"', 'house"', 'withdraw 0"0"')

    def test_all_changes_together(self):
        desk, book = desk_of(FORK), Book(FORK)
        for line in CHANGING:
            desk.execute(line)
        book.add_form(0, BITS, all_copied(BITS), all_copied(BITS))
        book.put_road(0, LEFT, LEFT)
        book.put_road(1, RIGHT, RIGHT)
        for call, given in ((book.drop_road, (1,)), (book.drop_form, (2,)), (book.promise, (("sure", 0, "c"),)), (book.promise, (("sure", 2, "b"),))):
            try:
                call(*given)
            except WayError:
                pass
        self.assertEqual(all_states(desk.book()), all_states(book))


class Refused(Desks):
    def test_each_error_of_a_book(self):
        desk = desk_of(((PICK, PICK), ((0, 1, COPY, COPY),)))
        self.refused(desk, "undo")
        self.refused(desk, "drop road 0")
        self.assertEqual(desk.execute("sure 1 p"), ["done"])
        self.refused(desk, "drop form 1")
        self.refused(desk, "put 0 there p copy p back p say 0")
        self.refused(desk, "put 0 there p say 0 back p say 0")
        self.assertEqual(desk.execute("put 0 there p table [ 1 0 ] copy p back p table [ 1 0 ] copy p"), ["done"])
        self.assertEqual(desk.book().house_now()[1][0][2:], (FLIP, FLIP))
        with self.assertRaises(NotKept):
            desk.book().put_road(0, ZERO, ONE)
        self.refused(desk_of(full_house(6, 9)), "copy form 0")
        desk = desk_of(with_form(ALONE, 0, PICK, ZERO, ZERO))
        self.refused(desk, "sure 0 p")


if __name__ == "__main__":
    unittest.main()
