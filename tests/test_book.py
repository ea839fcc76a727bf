"""[63] A house that stays good, and what was promised of it."""

import copy
import unittest

from goods import (BITS, COPY, FLIP, FORK, LEFT, ONE, PICK, RIGHT, SETTLED_MAPS, SIX_NINE, SQUARE, ZERO, alike_house, all_copied,
                   any_good_square_house, good_house, turn_for)
from samples import chance_of, things
from test_deeds import NEW, SWAP
from test_faults import ALONE, TURNING
from test_forms import exchanged, listed
from test_homes import assert_guarded
from test_joining import full_house
from test_newforms import SAID
from test_probes import MORE
from test_returns import CARDS, JUST_HOUSE
from wherebeen.book import Book
from wherebeen.carrier import Carrier
from wherebeen.deeds import is_deed, unlike_deed
from wherebeen.errors import FallsApart, Joined, NotKept, Nothing, Parted, TooMany, WayError, Wrong
from wherebeen.fates import lost_field
from wherebeen.faults import is_good
from wherebeen.forms import is_house, is_turn
from wherebeen.houses import part_of, road_between, without_roads
from wherebeen.newforms import with_form
from wherebeen.parted import parted_ways
from wherebeen.probes import tests_many
from wherebeen.shortcuts import house_with
from wherebeen.worths import field_names

CHAIN3 = ((PICK,) * 3, ((0, 1, COPY, COPY), (1, 2, COPY, COPY)))
BLANK = (("copy", 0), ("copy", 1), ("say", ""))
PLAIN = all_copied(BITS)


def state(book):
    """All that a Book tells."""
    return (book.house_now(), book.promises())


def all_states(book):
    """All that a Book tells, and told ahead of each change that can be taken back."""
    book = book.twin()
    states = [state(book)]
    while True:
        try:
            book.undo()
        except Nothing:
            return states
        states.append(state(book))


def told_fault(house, promise):
    if promise[0] == "sure":
        return lost_field(house, promise[1], promise[2])
    return unlike_deed(house, promise[1:])


class Books(unittest.TestCase):
    def refused(self, book, error, fields, call, *given):
        """Whether a call raises just this, given what it is given still is, and nothing has changed."""
        before = all_states(book)
        with self.assertRaises(error) as caught:
            call(*given)
        self.assertEqual(vars(caught.exception), fields)
        self.assertEqual(all_states(book), before)

    def wrong(self, book, place, call, *given):
        self.refused(book, Wrong, {"place": place}, call, *given)

    def done(self, book, wanted, answer, call, *given):
        """Does a change, and takes it back and does it again."""
        before, kept = all_states(book), copy.deepcopy(given)
        self.assertEqual(call(*given), answer)
        self.assertEqual(given, kept)
        self.assertEqual(state(book), wanted)
        self.assertEqual(all_states(book), [wanted] + before)
        self.assertIsNone(book.undo())
        self.assertEqual(all_states(book), before)
        call(*given)
        self.assertTrue(is_good(book.house_now()))


class Making(Books):
    def test_at_first(self):
        for house in (ALONE, FORK, CARDS, JUST_HOUSE):
            book = Book(house)
            self.assertEqual(state(book), (house, []))
            self.refused(book, Nothing, {}, book.undo)

    def test_methods_stand_in_the_class(self):
        for name in ("house_now promises add_form add_road put_road drop_road drop_form promise withdraw undo twin").split():
            self.assertIn(name, vars(Book))

    def test_wrong(self):
        for thing in things() + [Carrier(FORK), Book(FORK), list(FORK), (FORK[0], list(FORK[1])), (FORK[0], ()), FORK + ((),)]:
            with self.assertRaises(Wrong) as caught:
                Book(thing)
            self.assertEqual(caught.exception.place, 0)
        for thing in exchanged(FORK) + [listed(FORK)]:
            if not is_house(thing):
                with self.assertRaises(Wrong):
                    Book(thing)

    def test_few_then_parted(self):
        assert_guarded(self, (Book,))


class AddForm(Books):
    def test_done(self):
        book = Book(FORK)
        for count, given in enumerate(((0, BITS, LEFT, LEFT), (3, BITS, PLAIN, PLAIN),
                                       (2, PICK, (("copy", 1),), (("say", 0), ("copy", 0), ("say", ""))))):
            self.done(book, (with_form(book.house_now(), *given), []), 3 + count, book.add_form, *given)
        self.assertEqual(len(book.house_now()[0]), 6)

    def test_wrong(self):
        book = Book(FORK)
        for thing in things() + [book, 3, -1, 7]:
            self.wrong(book, 0, book.add_form, thing, BITS, LEFT, LEFT)
            self.wrong(book, 0, book.add_form, thing, thing, thing, thing)
            self.wrong(book, 1, book.add_form, 0, thing, LEFT, LEFT)
            self.wrong(book, 1, book.add_form, 0, thing, thing, thing)
            self.wrong(book, 2, book.add_form, 0, BITS, thing, LEFT)
            self.wrong(book, 2, book.add_form, 0, BITS, thing, thing)
            self.wrong(book, 3, book.add_form, 0, BITS, LEFT, thing)
        # turns that lead the other way about
        there, back = (("copy", 0),), (("copy", 0), ("say", 0), ("say", ""))
        self.wrong(book, 2, book.add_form, 0, PICK, back, there)
        self.wrong(book, 3, book.add_form, 0, PICK, there, there)
        self.wrong(book, 1, book.add_form, 0, list(BITS), LEFT, LEFT)
        for thing in exchanged(LEFT):
            if not is_turn(BITS, BITS, thing):
                self.wrong(book, 2, book.add_form, 0, BITS, thing, LEFT)
                self.wrong(book, 3, book.add_form, 0, BITS, LEFT, thing)

    def test_wrong_ahead_of_all_else(self):
        book = Book(full_house(6, 9))
        self.wrong(book, 0, book.add_form, 6, PICK, ZERO, ZERO)
        self.wrong(book, 3, book.add_form, 0, PICK, ZERO, None)

    def test_too_many(self):
        for house, most in ((full_house(6, 5), 6), (full_house(6, 9), 6), (full_house(5, 9), 9)):
            book = Book(house)
            self.refused(book, TooMany, {"most": most}, book.add_form, 0, PICK, ONE, COPY)
            # ahead of forms with too many tests
            self.refused(book, TooMany, {"most": most}, book.add_form, 0, MORE, SAID, ZERO)
        book = Book(full_house(5, 8))
        self.assertEqual(book.add_form(4, PICK, ZERO, ZERO), 5)

    def test_few_then_parted(self):
        book = Book(ALONE)
        self.refused(book, TooMany, {"most": 500}, book.add_form, 0, MORE, SAID, ZERO)
        self.refused(book, TooMany, {"most": 500}, book.add_form, 0, MORE, SAID, (("say", 1),))
        worse = with_form(ALONE, 0, PICK, COPY, ZERO)
        worth, way, other = parted_ways(worse)
        self.refused(book, Parted, {"worth": worth, "way": way, "other": other}, book.add_form, 0, PICK, COPY, ZERO)
        book = Book(((PICK, PICK), ((0, 1, ZERO, ZERO),)))
        worth, way, other = parted_ways(with_form(book.house_now(), 1, PICK, ONE, ONE))
        self.refused(book, Parted, {"worth": worth, "way": way, "other": other}, book.add_form, 1, PICK, ONE, ONE)

    def test_not_kept(self):
        book = Book(FORK)
        book.promise(("sure", 0, "c"))
        book.promise(("sure", 1, "c"))
        book.promise(("order", 2, NEW))
        worse = with_form(FORK, 1, BITS, BLANK, BLANK)
        self.refused(book, NotKept, {"index": 0, "fault": lost_field(worse, 0, "c")}, book.add_form, 1, BITS, BLANK, BLANK)
        self.assertEqual(book.withdraw(0), ("sure", 0, "c"))
        self.refused(book, NotKept, {"index": 0, "fault": ((1, 3, 1), (0, 0, "~2"))}, book.add_form, 1, BITS, BLANK, BLANK)
        book.withdraw(0)
        self.refused(book, NotKept, {"index": 0, "fault": unlike_deed(worse, (2, NEW))}, book.add_form, 1, BITS, BLANK, BLANK)
        book.withdraw(0)
        self.assertEqual(book.add_form(1, BITS, BLANK, BLANK), 3)


class Roads(Books):
    def test_add_road(self):
        book = Book(CHAIN3)
        self.done(book, (house_with(CHAIN3, (0, 2, ZERO, ZERO)), []), None, book.add_road, 0, 2, ZERO, ZERO)
        self.assertEqual([road[:2] for road in book.house_now()[1]], [(0, 1), (0, 2), (1, 2)])

    def test_add_road_wrong(self):
        book = Book(CHAIN3)
        for thing in things() + [book, 3, -1, "0"]:
            self.wrong(book, 0, book.add_road, thing, 2, ZERO, ZERO)
            self.wrong(book, 0, book.add_road, thing, thing, thing, thing)
            self.wrong(book, 1, book.add_road, 0, thing, ZERO, ZERO)
            self.wrong(book, 2, book.add_road, 0, 2, thing, ZERO)
            self.wrong(book, 2, book.add_road, 0, 2, thing, thing)
            self.wrong(book, 3, book.add_road, 0, 2, ZERO, thing)
        for one, other in ((0, 0), (2, 0), (2, 2), (1, 0)):
            self.wrong(book, 1, book.add_road, one, other, ZERO, ZERO)
        # also where a road joins them already
        self.wrong(book, 2, book.add_road, 0, 1, None, ZERO)
        self.wrong(book, 3, book.add_road, 0, 1, ZERO, [])

    def test_joined_ahead_of_nine_roads(self):
        book = Book(CHAIN3)
        self.refused(book, Joined, {"index": 1}, book.add_road, 1, 2, ZERO, ZERO)
        nine = alike_house(PICK, SIX_NINE, [COPY] * 9)
        book = Book(nine)
        for index, (one, other) in enumerate(SIX_NINE):
            self.refused(book, Joined, {"index": index}, book.add_road, one, other, COPY, COPY)
        self.refused(book, TooMany, {"most": 9}, book.add_road, 0, 1, COPY, COPY)
        self.refused(book, TooMany, {"most": 9}, book.add_road, 4, 5, COPY, ZERO)
        book = Book(alike_house(PICK, SIX_NINE[:8], [COPY] * 8))
        self.assertIsNone(book.add_road(0, 1, COPY, COPY))

    def test_add_road_parted_and_not_kept(self):
        book = Book(CHAIN3)
        worth, way, other = parted_ways(house_with(CHAIN3, (0, 2, FLIP, FLIP)))
        self.refused(book, Parted, {"worth": worth, "way": way, "other": other}, book.add_road, 0, 2, FLIP, FLIP)
        book.promise(("order", 1, FLIP))
        book.promise(("sure", 2, "p"))
        worse = house_with(CHAIN3, (0, 2, ZERO, ZERO))
        self.refused(book, NotKept, {"index": 0, "fault": unlike_deed(worse, (1, FLIP))}, book.add_road, 0, 2, ZERO, ZERO)
        self.refused(book, Parted, {"worth": worth, "way": way, "other": other}, book.add_road, 0, 2, FLIP, FLIP)
        book.withdraw(0)
        self.refused(book, NotKept, {"index": 0, "fault": ((2, 0, 2), (1,))}, book.add_road, 0, 2, ZERO, ZERO)
        self.assertIsNone(book.add_road(0, 2, COPY, COPY))

    def test_put_road(self):
        book = Book(FORK)
        self.done(book, ((FORK[0], (FORK[1][0], (0, 2, BLANK, BLANK))), []), None, book.put_road, 1, BLANK, BLANK)
        self.done(book, ((FORK[0], ((0, 1, PLAIN, PLAIN), (0, 2, BLANK, BLANK))), []), None, book.put_road, 0, PLAIN, PLAIN)

    def test_put_road_wrong(self):
        book = Book(CARDS)
        there, back = CARDS[1][0][2:]
        for thing in things() + [book, 1, -1]:
            self.wrong(book, 0, book.put_road, thing, there, back)
            self.wrong(book, 0, book.put_road, thing, thing, thing)
            self.wrong(book, 1, book.put_road, 0, thing, back)
            self.wrong(book, 1, book.put_road, 0, thing, thing)
            self.wrong(book, 2, book.put_road, 0, there, thing)
        self.wrong(book, 1, book.put_road, 0, back, there)
        self.wrong(book, 2, book.put_road, 0, there, there)
        self.wrong(Book(ALONE), 0, Book(ALONE).put_road, 0, ZERO, ZERO)

    def test_put_road_parted_and_not_kept(self):
        book = Book(FORK)
        ones = (("say", 1), ("copy", 1), ("copy", 2))
        worth, way, other = parted_ways((FORK[0], (FORK[1][0], (0, 2, ones, ones))))
        self.refused(book, Parted, {"worth": worth, "way": way, "other": other}, book.put_road, 1, ones, ones)
        book.promise(("order", 0, NEW))
        book.promise(("sure", 2, "c"))
        worse = (FORK[0], ((0, 1, BLANK, BLANK), FORK[1][1]))
        self.refused(book, NotKept, {"index": 0, "fault": unlike_deed(worse, (0, NEW))}, book.put_road, 0, BLANK, BLANK)
        book.withdraw(0)
        self.refused(book, NotKept, {"index": 0, "fault": ((2, 0, 1, 0, 2), (0, 0, "~2"))}, book.put_road, 0, BLANK, BLANK)

    def test_drop_road(self):
        book = Book(TURNING[:1] + ((TURNING[1][0], (0, 2, COPY, COPY), TURNING[1][2]),))
        book.promise(("sure", 0, "p"))
        self.done(book, (without_roads(book.house_now(), (1,)), [("sure", 0, "p")]), None, book.drop_road, 1)
        self.refused(book, FallsApart, {"spot": 1}, book.drop_road, 0)
        self.refused(book, FallsApart, {"spot": 2}, book.drop_road, 1)
        for thing in things() + [book, 2, -1]:
            self.wrong(book, 0, book.drop_road, thing)
        self.wrong(Book(ALONE), 0, Book(ALONE).drop_road, 0)


class DropForm(Books):
    def test_done(self):
        book = Book(FORK)
        self.done(book, (part_of(FORK, (0, 2)), []), None, book.drop_form, 1)
        self.done(book, (((BITS,), ()), []), None, book.drop_form, 0)
        self.refused(book, FallsApart, {"spot": 0}, book.drop_form, 0)

    def test_wrong(self):
        book = Book(FORK)
        for thing in things() + [book, 3, -1]:
            self.wrong(book, 0, book.drop_form, thing)

    def test_falls_apart(self):
        book = Book(FORK)
        self.refused(book, FallsApart, {"spot": 2}, book.drop_form, 0)
        book.promise(("sure", 0, "c"))
        self.refused(book, FallsApart, {"spot": 2}, book.drop_form, 0)
        book = Book(CHAIN3)
        self.refused(book, FallsApart, {"spot": 2}, book.drop_form, 1)
        book = Book(ALONE)
        book.promise(("sure", 0, "p"))
        self.refused(book, FallsApart, {"spot": 0}, book.drop_form, 0)

    def test_promises_about_the_form_and_about_greater_ones(self):
        book = Book(CHAIN3)
        for promise in (("order", 2, FLIP), ("sure", 0, "p"), ("sure", 1, "p"), ("sure", 0, "p"), ("sure", 2, "p")):
            self.assertIsNone(book.promise(promise))
        self.refused(book, NotKept, {"index": 1, "fault": None}, book.drop_form, 0)
        self.refused(book, NotKept, {"index": 0, "fault": None}, book.drop_form, 2)
        book.withdraw(1)
        self.refused(book, NotKept, {"index": 2, "fault": None}, book.drop_form, 0)
        book.withdraw(2)
        wanted = [("order", 1, FLIP), ("sure", 0, "p"), ("sure", 1, "p")]
        self.done(book, (part_of(CHAIN3, (1, 2)), wanted), None, book.drop_form, 0)
        # the promises go on to be asked about the forms with their new indexes
        worse = (book.house_now()[0], ((0, 1, ZERO, ZERO),))
        self.refused(book, NotKept, {"index": 0, "fault": unlike_deed(worse, (1, FLIP))}, book.put_road, 0, ZERO, ZERO)
        book.withdraw(0)
        self.refused(book, NotKept, {"index": 0, "fault": ((0, 1, 0), (1,))}, book.put_road, 0, ZERO, ZERO)
        book.withdraw(0)
        self.refused(book, NotKept, {"index": 0, "fault": ((1, 0, 1), (1,))}, book.put_road, 0, ZERO, ZERO)


class Promises(Books):
    def test_made_and_withdrawn(self):
        book = Book(FORK)
        made = []
        for promise in (("sure", 0, "c"), ("order", 1, NEW), ("sure", 2, "c"), ("sure", 0, "c"),
                        ("order", 0, PLAIN)):
            self.done(book, (FORK, made + [promise]), None, book.promise, promise)
            made.append(promise)
        self.assertEqual(book.promises(), made)
        self.done(book, (FORK, made[:1] + made[2:]), made[1], book.withdraw, 1)
        self.assertEqual(book.withdraw(3), ("order", 0, PLAIN))
        self.assertEqual(book.promises(), [made[0], made[2], made[3]])

    def test_not_kept(self):
        book = Book(FORK)
        self.refused(book, NotKept, {"index": 0, "fault": lost_field(FORK, 0, "a")}, book.promise, ("sure", 0, "a"))
        book.promise(("sure", 0, "c"))
        self.refused(book, NotKept, {"index": 1, "fault": ((2, 0, 2), (0, 1, "~2"))}, book.promise, ("sure", 2, "b"))
        self.refused(book, NotKept, {"index": 1, "fault": ((0, 1), (0, 1, "~2"))}, book.promise, ("order", 0, SWAP))
        book = Book(CARDS)
        self.refused(book, NotKept, {"index": 0, "fault": ((0, 1, 0), ("~0", ("~1", "~1~")))}, book.promise, ("sure", 0, "tags"))
        self.assertIsNone(book.promise(("sure", 1, "tag")))

    def test_wrong(self):
        book = Book(CARDS)
        for thing in things() + [book, ["sure", 0, "name"], ("sure", 0), ("sure", 0, "name", 0), ("sure", 2, "name"), ("sure", -1, "name"),
                                 ("sure", True, "name"), ("sure", 0, "tag"), ("sure", 1, "tags"), ("sure", 0, "none"), ("sure", 0, None),
                                 ("sure", 0, ["name"]), ("sure", 0, 0), ("Sure", 0, "name"), (b"sure", 0, "name"), ("order", 0, "name"),
                                 ("sure", 0, all_copied(CARDS[0][0])), ("order", 1, (("copy", 0), ("rowof", ("copy", 1)))),
                                 ("order", 0, list(all_copied(CARDS[0][0]))), ("order", False, all_copied(CARDS[0][0])), ("order", 0),
                                 (["sure"], 0, "name"), (None, 0, "name"), {"sure": 0}, ("sure", [0], "name"), (("sure", 0, "name"),)]:
            self.wrong(book, 0, book.promise, thing)
        self.assertIsNone(book.promise(("order", 0, all_copied(CARDS[0][0]))))
        for thing in exchanged(("order", 0, NEW)):
            book = Book(FORK)
            if not (isinstance(thing, tuple) and thing[0] == "order" and is_deed(FORK, thing[1:])):
                self.wrong(book, 0, book.promise, thing)

    def test_withdraw_wrong(self):
        book = Book(FORK)
        self.wrong(book, 0, book.withdraw, 0)
        book.promise(("sure", 0, "c"))
        for thing in things() + [book, 1, -1, ("sure", 0, "c"), False]:
            self.wrong(book, 0, book.withdraw, thing)
        self.assertEqual(book.withdraw(0), ("sure", 0, "c"))
        self.wrong(book, 0, book.withdraw, 0)


class Undo(Books):
    def test_back_to_the_first_page(self):
        book = Book(FORK)
        seen = [state(book)]
        for call, given in ((book.promise, (("sure", 0, "c"),)), (book.add_form, (1, BITS, PLAIN, PLAIN)), (book.add_road, (1, 2, LEFT, LEFT)),
                            (book.promise, (("order", 3, NEW),)), (book.withdraw, (0,)), (book.drop_road, (0,)), (book.drop_form, (0,)),
                            (book.put_road, (0, RIGHT, RIGHT))):
            try:
                call(*given)
            except WayError:
                continue
            seen.append(state(book))
        self.assertGreater(len(seen), 6)
        for wanted in seen[-2::-1]:
            self.assertIsNone(book.undo())
            self.assertEqual(state(book), wanted)
        self.refused(book, Nothing, {}, book.undo)
        self.assertIsNone(book.promise(("sure", 0, "c")))

    def test_a_promise_comes_back_at_its_place(self):
        book = Book(FORK)
        made = [("sure", 0, "c"), ("order", 0, NEW), ("sure", 1, "c")]
        for promise in made:
            book.promise(promise)
        for index in range(3):
            self.assertEqual(book.withdraw(index), made[index])
            book.undo()
            self.assertEqual(book.promises(), made)
        book.withdraw(0)
        book.withdraw(0)
        book.undo()
        self.assertEqual(book.promises(), made[1:])
        book.undo()
        self.assertEqual(book.promises(), made)

    def test_indexes_come_back(self):
        book = Book(CHAIN3)
        book.promise(("sure", 2, "p"))
        book.drop_form(0)
        self.assertEqual(book.promises(), [("sure", 1, "p")])
        book.undo()
        self.assertEqual(state(book), (CHAIN3, [("sure", 2, "p")]))

    def test_refused_calls_are_not_taken_back(self):
        book = Book(FORK)
        book.promise(("sure", 0, "c"))
        for call, given in ((book.put_road, (0, BLANK, BLANK)), (book.drop_form, (0,)), (book.drop_road, (0,)), (book.promise, (("sure", 0, "a"),)),
                            (book.withdraw, (1,)), (book.add_road, (0, 1, LEFT, LEFT))):
            self.assertRaises(WayError, call, *given)
        book.undo()
        self.assertEqual(state(book), (FORK, []))
        self.refused(book, Nothing, {}, book.undo)


class Twins(Books):
    def test_go_their_own_way(self):
        book = Book(FORK)
        book.promise(("sure", 0, "c"))
        book.put_road(0, PLAIN, PLAIN)
        twin = book.twin()
        self.assertIsInstance(twin, Book)
        self.assertEqual(all_states(twin), all_states(book))
        kept = all_states(book)
        twin.withdraw(0)
        twin.drop_form(1)
        self.assertEqual(all_states(book), kept)
        kept = all_states(twin)
        book.undo()
        book.undo()
        book.add_form(0, BITS, RIGHT, RIGHT)
        self.assertEqual(all_states(twin), kept)
        for _ in range(4):
            twin.undo()
        self.assertEqual(state(twin), (FORK, []))
        self.refused(twin, Nothing, {}, twin.undo)

    def test_what_is_told_may_be_changed(self):
        book = Book(FORK)
        book.promise(("sure", 0, "c"))
        told = book.promises()
        told.clear()
        told.append(None)
        self.assertEqual(book.promises(), [("sure", 0, "c")])
        self.assertEqual(book.house_now(), FORK)

    def test_what_is_handed_in_is_still_the_callers(self):
        there, promise = tuple(list(LEFT)), tuple(["sure", 0, "c"])
        book = Book(FORK)
        book.promise(promise)
        book.put_road(0, there, there)
        self.assertEqual((there, promise), (LEFT, ("sure", 0, "c")))
        with self.assertRaises(NotKept) as caught:
            book.put_road(0, BLANK, BLANK)
        self.assertEqual(caught.exception.index, 0)


class LongRows(Books):
    def told(self, house, promises, change, given):
        """What a change should come to: the house, the promises and the answer, or an error's name and fields."""
        try:
            if change == "add_form":
                house = with_form(house, *given)
            elif change == "add_road":
                index = road_between(house, *given[:2])
                if index is not None:
                    return ("Joined", {"index": index})
                house = house_with(house, given)
            elif change == "put_road":
                house = (house[0], house[1][:given[0]] + (house[1][given[0]][:2] + given[1:],) + house[1][given[0] + 1:])
            elif change == "drop_road":
                house = without_roads(house, given)
            elif len(house[0]) == 1:
                return ("FallsApart", {"spot": 0})
            else:
                house = part_of(house, tuple(spot for spot in range(len(house[0])) if spot != given[0]))
        except WayError as error:
            return (type(error).__name__, vars(error))
        if change == "drop_form":
            about = [at for at, promise in enumerate(promises) if promise[1] == given[0]]
            if about:
                return ("NotKept", {"index": about[0], "fault": None})
            promises = [(sort, spot - (spot > given[0]), thing) for sort, spot, thing in promises]
        if max(map(tests_many, house[0])) > 500:
            return ("TooMany", {"most": 500})
        parted = parted_ways(house)
        if parted:
            return ("Parted", dict(zip(("worth", "way", "other"), parted)))
        for index, promise in enumerate(promises):
            fault = told_fault(house, promise)
            if fault is not None:
                return ("NotKept", {"index": index, "fault": fault})
        return (house, promises, len(house[0]) - 1 if change == "add_form" else None)

    def any_change(self, chance, house):
        spots, roads = len(house[0]), len(house[1])
        change = chance.choice(("add_form", "add_form", "add_road", "add_road", "put_road", "drop_road", "drop_form"))
        turn = turn_for(chance.choice(SETTLED_MAPS + [(0, 1, 2, 3)] * 40))
        back = turn if chance.random() < 0.9 else turn_for((0, 1, 2, 2))
        if change == "add_form":
            return change, (chance.randrange(spots), SQUARE, turn, back)
        if change == "add_road" and spots > 1:
            return change, tuple(sorted(chance.sample(range(spots), 2))) + (turn, back)
        if change in ("put_road", "drop_road") and roads:
            index = chance.randrange(roads)
            return change, (index,) if change == "drop_road" else (index, turn, back)
        return "drop_form", (chance.randrange(spots),)

    def any_promise(self, chance, house):
        spot = chance.randrange(len(house[0]))
        if chance.random() < 0.5:
            return ("sure", spot, chance.choice(field_names(house[0][spot])))
        return ("order", spot, turn_for(chance.choice(SETTLED_MAPS)))

    def step(self, chance, book, pages):
        """Does something with a Book, and holds it against pages, each a house and promises; returns what it was."""
        house, promises = pages[-1]
        sort = chance.choice(("change",) * 6 + ("promise",) * 3 + ("withdraw", "undo", "undo"))
        if sort == "undo":
            if len(pages) == 1:
                self.assertRaises(Nothing, book.undo)
            else:
                book.undo()
                pages.pop()
            return sort
        if sort == "withdraw" and promises:
            index = chance.randrange(len(promises))
            self.assertEqual(book.withdraw(index), promises[index])
            pages.append((house, promises[:index] + promises[index + 1:]))
            return sort
        if sort == "promise":
            promise = self.any_promise(chance, house)
            fault = told_fault(house, promise)
            if fault is None:
                book.promise(promise)
                pages.append((house, promises + [promise]))
                return sort
            with self.assertRaises(NotKept) as caught:
                book.promise(promise)
            self.assertEqual(vars(caught.exception), {"index": len(promises), "fault": fault})
            return "no promise"
        change, given = self.any_change(chance, house)
        wanted = self.told(house, promises, change, given)
        if isinstance(wanted[0], str):
            with self.assertRaises(WayError) as caught:
                getattr(book, change)(*given)
            self.assertEqual((type(caught.exception).__name__, vars(caught.exception)), wanted)
            return wanted[0]
        self.assertEqual(getattr(book, change)(*given), wanted[2])
        pages.append(wanted[:2])
        return change

    def test_by_chance(self):
        counts = {}
        for seed in range(60):
            chance = chance_of(seed)
            house = any_good_square_house(chance, 3)
            book, pages = Book(house), [(house, [])]
            for _ in range(60):
                sort = self.step(chance, book, pages)
                counts[sort] = counts.get(sort, 0) + 1
                self.assertEqual(state(book), pages[-1])
            self.assertEqual(all_states(book), pages[::-1])
        for sort in ("add_form", "add_road", "put_road", "drop_road", "drop_form", "promise", "no promise", "withdraw", "undo", "Parted",
                     "NotKept", "Joined", "FallsApart", "TooMany"):
            self.assertGreater(counts.get(sort, 0), 4, sort)

    def test_houses_with_words(self):
        for seed in range(20):
            house = good_house(chance_of(seed), fields=3)
            if max(map(tests_many, house[0])) <= 60:
                book = Book(house)
                for spot, form in enumerate(house[0]):
                    for name in field_names(form):
                        fault = lost_field(house, spot, name)
                        if fault is None:
                            book.promise(("sure", spot, name))
                        else:
                            before = len(book.promises())
                            self.refused(book, NotKept, {"index": before, "fault": fault}, book.promise, ("sure", spot, name))
                self.assertEqual(book.house_now(), house)


if __name__ == "__main__":
    unittest.main()
