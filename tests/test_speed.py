"""Answers come within seconds for houses of six forms and nine roads, with forms of some sixty tests."""

import time
import unittest

from goods import SIX_NINE, SQUARE, TWO, alike_house, all_copied, turn_for
from samples import WORD
from wherebeen.book import Book
from wherebeen.charters import breaking_way, greatest_charters, is_charter, lot_of
from wherebeen.copies import could_have_been, least_tellers, told_apart
from wherebeen.deeds import deed_by, keeps_order, unlike_deed
from wherebeen.desk import Desk
from wherebeen.elements import element_of, is_element, lost
from wherebeen.families import are_free, family_by, is_family, maps_of, unlike_road
from wherebeen.fates import become, lost_field, sure_fields
from wherebeen.faults import faults_of, first_fault, is_fault
from wherebeen.goodlots import fewest_cuts, greatest_good, is_good_lot, least_bad
from wherebeen.goneback import gone_back, gone_to, merging_lots
from wherebeen.homes import homes_of, passes
from wherebeen.hubs import hub_of, hub_size, is_hub
from wherebeen.joining import join_fault
from wherebeen.mends import is_mend, least_mends, places_of
from wherebeen.newforms import clash, form_fault
from wherebeen.numbers import is_whole, whole_of
from wherebeen.outcomes import gone_lots, hangs_on_gone, is_good_by_all, outcomes
from wherebeen.parted import is_parted, parted_ways
from wherebeen.pasts import first_worth, greatest_past, pasts_of, surely_not_gone
from wherebeen.probes import tests_many
from wherebeen.returns import change_returns, is_lossless, returned
from wherebeen.rings import is_still, round_of, still_rings
from wherebeen.rows import is_row, row_led, same_rows
from wherebeen.shortcuts import agrees, may_add, road_by
from wherebeen.texts import show_house

SECONDS = 10
FORM = (("a", ("pick", 4)), ("b", ("pick", 4)), ("w", WORD), ("m", ("maybe", WORD)), ("t", TWO))


def long(at, values):
    """An expression of sixty parts that changes a pick by these values, and then leaves it as it is."""
    part = ("table", ("copy", at), values)
    for _ in range(58):
        part = ("table", part, tuple(range(len(values))))
    return part


PLAIN = (long(0, (0, 1, 2, 3)), long(1, (0, 1, 2, 3)), ("copy", 2), ("copy", 3), long(4, (0, 1)))
LOSING = [(long(0, (0, 0, 0, 0)),) + PLAIN[1:], PLAIN[:1] + (long(1, (0, 1, 1, 0)),) + PLAIN[2:], PLAIN,
          PLAIN[:2] + (("say", "x"), ("say", None)) + PLAIN[4:], PLAIN[:4] + (("say", 1),)]
TURNING = [(long(0, (1, 2, 3, 0)),) + PLAIN[1:], PLAIN[:2] + (("else", ("copy", 3), ("copy", 2)), ("some", ("copy", 2)),
                                                             long(4, (1, 0)))]
GOOD = alike_house(FORM, SIX_NINE, (LOSING * 2)[:9])
BAD = alike_house(FORM, SIX_NINE, (LOSING[:3] + TURNING) * 2)
RING = alike_house(FORM, [(0, 1), (0, 3), (1, 2), (2, 3)], LOSING[:2] + LOSING[3:], 4)
WORTH = (3, 2, "letter", ("tag",), 0)
WAY = (0, 3, 1, 4, 2, 5) * 10


class Speed(unittest.TestCase):
    def timed(self, call, *given):
        begun = time.perf_counter()
        answer = call(*given)
        self.assertLess(time.perf_counter() - begun, SECONDS, call.__name__)
        return answer

    def test_form(self):
        self.assertEqual(tests_many(FORM), 64)

    def test_of_a_good_house(self):
        self.assertIsNone(self.timed(first_fault, GOOD))
        self.assertIsNone(self.timed(parted_ways, GOOD))
        self.assertIs(self.timed(is_good_by_all, GOOD), True)
        self.assertGreater(len(self.timed(outcomes, GOOD, 0, WORTH)), 1000)
        self.assertIs(self.timed(hangs_on_gone, GOOD, 0, WORTH), True)
        self.assertIs(self.timed(passes, GOOD, 0, WORTH, 2), True)
        self.assertGreater(len(self.timed(homes_of, GOOD, 0, WORTH)), 1)
        element = self.timed(element_of, GOOD, 5, WORTH)
        for road in range(9):
            element = self.timed(lost, GOOD, element, road)
        self.assertIs(self.timed(is_element, GOOD, element), True)
        self.assertIs(self.timed(change_returns, GOOD, WAY, WAY[:1] + (4, 1) * 29), True)
        self.assertIs(self.timed(is_lossless, GOOD, WAY), False)
        self.assertEqual(self.timed(returned, GOOD, WAY, WORTH)[0], 0)

    def test_of_a_bad_house(self):
        self.assertGreater(len(self.timed(faults_of, BAD)), 100)
        self.assertIs(self.timed(is_fault, BAD, self.timed(first_fault, BAD)), True)
        self.assertIs(self.timed(is_parted, BAD, self.timed(parted_ways, BAD)), True)
        self.assertIs(self.timed(is_good_by_all, BAD), False)
        self.assertIs(self.timed(hangs_on_gone, BAD, 0, WORTH), False)
        self.assertGreater(len(self.timed(gone_lots, BAD, 0)), 300)

    def test_of_a_ring(self):
        form = FORM[:2] + (("m", ("maybe", TWO)), ("t", ("pick", 1)))
        turns = [turn[:2] + (("copy", 2), ("copy", 3)) for turn in LOSING[:3] + TURNING[:1]]
        house = alike_house(form, [(0, 1), (0, 3), (1, 2), (2, 3)], turns[:3] + turns[:1], 4)
        self.assertEqual(tests_many(form), 48)
        self.assertIs(self.timed(is_whole, house, self.timed(whole_of, house)), True)
        self.assertIs(self.timed(is_still, house, (0, 1, 2, 3, 0)), True)
        self.assertEqual(len(self.timed(still_rings, house)), 1)
        self.assertGreater(len(self.timed(round_of, house, (0, 1, 2, 3, 0))), 1)
        self.assertGreater(sum(map(len, self.timed(become, house, 0, (1, 2, None, 0)).values())), 4)
        self.assertEqual(self.timed(sure_fields, house, 0), ("m", "t"))
        tree = alike_house(form, [(0, 1), (1, 2), (2, 3)], turns[:3], 4)
        self.assertIs(self.timed(is_hub, tree, self.timed(hub_of, tree)), True)
        self.assertEqual(self.timed(hub_size, tree), 4 * 48 - 12 - 24 - 48)
        bad = alike_house(form, [(0, 1), (0, 3), (1, 2), (2, 3)], turns, 4)
        self.assertEqual(len(self.timed(still_rings, bad)), 0)
        self.assertIsNotNone(self.timed(lost_field, bad, 0, "a"))

    def test_of_lots(self):
        seven = (BAD[0], BAD[1][:6] + BAD[1][8:])
        self.assertGreater(len(self.timed(greatest_good, seven)), 1)
        self.assertGreater(len(self.timed(least_bad, seven)), 1)
        self.assertGreater(len(self.timed(fewest_cuts, seven)), 0)
        self.assertIs(self.timed(is_good_lot, BAD, tuple(range(9))), False)
        self.assertIs(self.timed(is_good_lot, GOOD, tuple(range(9))), True)
        self.assertGreater(sum(map(len, self.timed(become, BAD, 0, WORTH).values())), 90)
        self.assertEqual(self.timed(sure_fields, BAD, 0), ())
        self.assertIsNotNone(self.timed(lost_field, BAD, 5, "w"))

    def test_of_roads_more(self):
        eight = (GOOD[0], GOOD[1][:8])
        road = GOOD[1][8]
        self.assertIsNone(self.timed(may_add, eight, road))
        self.assertIs(self.timed(agrees, eight, road, (2, 3, 0, 5)), True)
        self.assertIsNotNone(self.timed(may_add, eight, road[:2] + (TURNING[0], TURNING[0])))
        self.assertEqual(self.timed(road_by, alike_house(FORM, SIX_NINE, [PLAIN[:1] + (("copy", 1),) + PLAIN[2:4] + (
            ("copy", 4),)] * 9), (0, 3, 1))[:2], (0, 1))

    def test_of_roads_gone(self):
        for house in (RING, GOOD):
            lot = tuple(range(len(house[1])))
            lost_worth = self.timed(gone_back, house, 0, WORTH, lot)
            self.assertEqual(self.timed(gone_to, house, 0, WORTH, lot, 2), lost_worth)
            self.assertGreater(len(self.timed(merging_lots, house, 0, WORTH, lost_worth)), 0)
            self.assertGreater(len(self.timed(pasts_of, house, 1, lost_worth)), 10)
            self.assertEqual(self.timed(greatest_past, house, 1, lost_worth), lot)
            self.assertEqual(self.timed(surely_not_gone, house, 1, lost_worth), ())
            self.assertEqual(self.timed(first_worth, house, 1, lost_worth, lot, 3), lost_worth)

    def test_of_joining(self):
        for house in (RING, GOOD):
            self.assertIsNone(self.timed(join_fault, house, 0, house, 1))
            self.assertIsNone(self.timed(breaking_way, house, 0, tuple(LOSING)))
            self.assertIsNone(self.timed(form_fault, house, 2, FORM, LOSING[3], LOSING[3]))
            self.assertIs(self.timed(keeps_order, house, (1, LOSING[1])), True)
            self.assertIsNotNone(self.timed(unlike_deed, house, (1, TURNING[0])))
        eight, short = tuple((LOSING * 2)[:8]), (("say", 3), ("copy", 1), ("copy", 2), ("say", None), ("say", 0))
        self.assertIs(self.timed(is_charter, FORM, eight), True)
        self.assertEqual(self.timed(lot_of, FORM, eight, LOSING[3]), (2, 3, 7))
        self.assertEqual(len(self.timed(greatest_charters, FORM, tuple((LOSING * 3)[:11] + [short]))), 2)
        self.assertIsNotNone(self.timed(clash, FORM, LOSING[0], short))
        plain = alike_house(FORM, SIX_NINE, [all_copied(FORM)] * 9)
        self.assertEqual(self.timed(deed_by, plain, (5, LOSING[0]), (0, 3, 1, 4, 2, 5)), (0, LOSING[0]))

    def test_of_families_and_rows(self):
        for house in (RING, GOOD):
            many = len(house[0])
            family, other = (LOSING[1],) * many, (LOSING[0],) * many
            self.assertIs(self.timed(is_family, house, family), True)
            self.assertEqual(self.timed(unlike_road, house, (TURNING[0],) * many)[0], 0)
            self.assertIs(self.timed(are_free, house, family, other), True)
            first = (0, tuple([("go", 3), ("go", 0), ("do", 0), ("do", 1)] * 30))
            last = (0, tuple([("do", 1), ("go", 3), ("do", 0), ("go", 0)] * 30))
            self.assertIs(self.timed(is_row, house, (family, other), first), True)
            self.assertIs(self.timed(same_rows, house, (family, other), first, last), True)
            self.assertEqual(self.timed(row_led, house, (family, other), first, WORTH)[0], 0)
        short = alike_house(FORM, [(0, 1), (0, 2), (1, 3)], [(("say", 0),) + all_copied(FORM)[1:]] * 3, 4)
        self.assertEqual(len(self.timed(family_by, short, (0, (("say", 0),) + PLAIN[1:2] + all_copied(FORM)[2:]))), 4)
        squares = alike_house(SQUARE, SIX_NINE, [turn_for((0, 0, 2, 2)), turn_for((0, 1, 0, 1)), all_copied(SQUARE)] * 3)
        for row, wanted in (((0, 1, 2, 3), True), ((0, 0, 2, 2), True), ((2, 2, 2, 2), False)):
            for spot in (0, 5):
                self.assertIs(self.timed(maps_of, squares, (spot, turn_for(row))) is not None, wanted)

    def test_of_copies_and_mends(self):
        form = FORM[:2] + (("m", ("maybe", TWO)), ("t", ("pick", 1)))
        turns = [turn[:2] + (("copy", 2), ("copy", 3)) for turn in LOSING[:3] + TURNING[:1]]
        house = alike_house(form, [(0, 1), (0, 3), (1, 2), (2, 3)], turns[:3] + turns[:1], 4)
        lots = ((0,), (1,), (0, 1), (0, 1, 2, 3), (), (0, 2), (1, 3), (0, 1, 3))
        self.assertGreater(len(self.timed(could_have_been, house, 0, (((0,), (0, 1, None, 0)),))), 1)
        self.assertIsNone(self.timed(told_apart, house, 0, lots))
        self.assertEqual(self.timed(least_tellers, house, 0, lots), [(0, 1), (1, 5), (4,)])
        bad = alike_house(FORM, [(0, 1), (0, 3), (1, 2), (2, 3)], LOSING[:3] + TURNING[:1], 4)
        for house, wanted in ((bad, [((3, 0, 0), (3, 1, 0))]), (BAD, [])):
            places = tuple(places_of(house))
            self.assertEqual(self.timed(least_mends, house, places[-12:]), wanted)
            self.assertIs(self.timed(is_mend, house, places), True)

    def test_of_a_book_and_a_desk(self):
        book = self.timed(Book, RING)
        for spot in range(4):
            self.timed(book.promise, ("order", spot, LOSING[1]))
        first = alike_house(FORM, [(0, 1), (0, 3), (1, 2), (2, 3)], [LOSING[0], LOSING[1], LOSING[1], LOSING[0]], 4)
        book = self.timed(Book, first)
        for spot in range(4):
            for promise in (("sure", spot, "w"), ("sure", spot, "m"), ("order", spot, LOSING[0])):
                self.timed(book.promise, promise)
        self.assertEqual(self.timed(book.add_form, 2, FORM, LOSING[0], LOSING[0]), 4)
        self.timed(book.add_road, 0, 2, LOSING[1], LOSING[1])
        self.timed(book.put_road, 0, LOSING[1], LOSING[1])
        self.timed(book.drop_road, 1)
        self.timed(book.drop_form, 4)
        self.assertEqual(len(self.timed(book.twin).promises()), 12)
        desk = self.timed(Desk, show_house(first))
        for line, wanted in (("copy form 1", ["done"]), ("sure 0 t", ["done"]), ("put 1 there t say 1 back t say 1", ["refused"]),
                             ("same 0 1 0 and " + "0 1 0 3 " * 200 + "0", ["no"]), ("drop form 0", ["refused"]), ("undo", ["done"]), ("drop form 0", ["done"])):
            self.assertEqual(self.timed(desk.execute, line), wanted)


if __name__ == "__main__":
    unittest.main()
