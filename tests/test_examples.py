"""The examples of DOC.md, with the answers that stand there."""

import doctest
import unittest

STAGE_1 = '''
>>> from wherebeen.forms import is_expression, is_house, is_worth
>>> from wherebeen.worths import all_worths, least_worth, place_of, sorted_worths, with_value, worths_many
>>> form = (("name", ("word",)), ("tags", ("row", ("word",))), ("mark", ("maybe", ("pick", 2))))
>>> [least_worth(form), worths_many(form), is_worth(form, ("x", ("a", "b"), (1,))), is_worth(form, ("x", ("a",), 1))]
[('', (), None), None, True, False]
>>> [is_expression(form, ("word",), ("else", ("first", 1), ("copy", 0))), is_expression(form, ("word",), ("first", 1))]
[True, False]
>>> small = (("mark", ("maybe", ("pick", 2))), ("side", ("pick", 2)))
>>> [worths_many(small), all_worths(small)[:3], place_of(small, ((1,), 0))]
[6, [(None, 0), (None, 1), ((0,), 0)], 4]
>>> [sorted_worths(small, [((0,), 1), (None, 1), ((0,), 1)]), with_value(small, (None, 1), "mark", (0,))]
[[(None, 1), ((0,), 1)], ((0,), 1)]
>>> is_house(((small,), ()))
True
'''

STAGE_2 = '''
>>> from wherebeen.reader import read_house, read_turn, read_worth
>>> from wherebeen.texts import show_expression, show_house, show_value
>>> one = (("name", ("word",)), ("side", ("pick", 2)))
>>> other = (("names", ("row", ("word",))),)
>>> there, back = (("one", ("copy", 0)),), (("else", ("first", 0), ("say", "no #")), ("say", 0))
>>> house = ((one, other), ((0, 1, there, back),))
>>> show_house(house).split("\\n")[3:]
['form', 'field names row word', 'road 0 1', 'there names one copy name', 'back name else first names say "no #"', \
'back side say 0']
>>> [read_house(show_house(house)) == house, read_turn(one, other, "names   one copy name # all") == there]
[True, True]
>>> [show_value(("row", ("word",)), ('a "b"', "")), show_value(("maybe", ("pick", 3)), (2,)), \
show_value(("row", ("word",)), ())]
['[ "a ""b""" "" ]', 'some 2', '[ ]']
>>> show_expression(one, ("word",), ("when", ("copy", 1), (("copy", 0), ("say", "x"))))
'when 2 copy side copy name say "x"'
>>> read_worth(one, 'side 1\\nname "a#b" # here')
('a#b', 1)
'''

STAGE_3 = '''
>>> from wherebeen.expressions import put_in, worked
>>> from wherebeen.shapes import change_places, is_settled
>>> from wherebeen.probes import matters, parting_test, tests_of
>>> from wherebeen.turns import behind
>>> form = (("name", ("word",)), ("tags", ("row", ("word",))))
>>> first = (("copy", 0), ("rowof", ("first", 1)))
>>> [worked(first[1], ("x", ("a", "b"))), tests_of(form)]
[('a',), [('~0', ()), ('~0', ('~1',)), ('~0', ('~1', '~1~'))]]
>>> [parting_test(form, (("copy", 0), ("copy", 1)), first), is_settled(form, first)]
[('~0', ('~1', '~1~')), True]
>>> put_in(("is", 1), first)
('is', 1)
>>> swapped = (("else", ("first", 1), ("copy", 0)), ("one", ("copy", 0)))
>>> [behind(first, swapped) == (("else", ("first", 1), ("copy", 0)), ("one", ("copy", 0))), matters(form, swapped)]
[True, ((0, 1), (0,))]
>>> change_places(form, first, swapped)
True
'''

STAGE_4 = '''
>>> from wherebeen.carrier import Carrier
>>> from wherebeen.ways import gone_of, led, parting_worth, return_of, simple_ways, turn_of
>>> full = (("name", ("word",)), ("tags", ("row", ("word",))))
>>> card = (("name", ("word",)), ("tag", ("maybe", ("word",))))
>>> there, back = (("copy", 0), ("first", 1)), (("copy", 0), ("rowof", ("copy", 1)))
>>> house = ((full, card, card), ((0, 1, there, back), \
(1, 2, (("copy", 0), ("say", None)), (("copy", 0), ("copy", 1)))))
>>> [led(house, (0, 1, 0), ("x", ("a", "b"))), gone_of(house, (0, 1, 2, 1)), return_of((0, 1, 2))]
[('x', ('a',)), (0, 1), (0, 1, 2, 1, 0)]
>>> [simple_ways(house, 1), parting_worth(house, (0, 1, 0), (0,)), turn_of(house, (0, 1, 0))]
[[(1, 0), (1, 2)], ('~0', ('~1', '~1~')), (('copy', 0), ('rowof', ('first', 1)))]
>>> carrier = Carrier(house)
>>> [carrier.put("d", 0, ("x", ("a", "b"))), carrier.fork("d", "e"), carrier.go("e", 1), carrier.go("e", 0), \
carrier.worth_of("e")]
[None, None, None, None, ('x', ('a',))]
>>> [carrier.way_of("e"), carrier.undo(), carrier.spot_of("e")]
[(0, 1, 0), ('go', 'e', 0), 1]
'''

STAGE_5 = '''
>>> from wherebeen.faults import faults_of, first_fault, is_fault, is_good
>>> from wherebeen.outcomes import gone_lots, outcomes
>>> from wherebeen.parted import is_parted, parted_ways
>>> from wherebeen.returns import returned, unlike_return
>>> form, copy, zero, one = (("p", ("pick", 2)),), (("copy", 0),), (("say", 0),), (("say", 1),)
>>> house = ((form, form), ((0, 1, zero, zero),))
>>> [is_good(house), returned(house, (0, 1), (1,)), gone_lots(house, 0)]
[True, (0,), [(), (0,)]]
>>> outcomes(house, 0, (1,))
{((), 0): [(1,)], ((0,), 0): [(0,)], ((0,), 1): [(0,)]}
>>> [first_fault(((form, form), ((0, 1, copy, zero),))), parted_ways(((form, form), ((0, 1, copy, zero),)))]
[('road', 0, 0, (1,)), ((1,), (0, 1), (0, 1, 0, 1))]
>>> fork = ((form, form, form), ((0, 1, zero, zero), (0, 2, one, one)))
>>> [first_fault(fork), unlike_return(fork, (0, 1), (0, 2)), is_fault(fork, ("returns", (0, 1), (0, 2), (1,)))]
[('returns', (0, 1), (0, 2), (0,)), (0,), True]
>>> [parted_ways(fork), is_parted(fork, ((0,), (0, 1, 0), (0, 1, 0, 1, 0)))]
[((0,), (0, 1, 0, 2, 0), (0, 2, 0, 1, 0)), False]
'''

STAGE_6 = '''
>>> from wherebeen.elements import element_of, lost, home_worth
>>> from wherebeen.homes import homes_of, passes
>>> from wherebeen.hubs import hub_size, is_hub
>>> from wherebeen.numbers import is_whole, whole_of
>>> form, zero = (("p", ("pick", 2)),), (("say", 0),)
>>> house = ((form, form, form), ((0, 1, zero, zero), (1, 2, (("copy", 0),), (("copy", 0),))))
>>> [homes_of(house, 2, (0,)), homes_of(house, 0, (1,)), passes(house, 1, (1,), 0)]
[[(0, (0,)), (1, (0,)), (2, (0,))], [(0, (1,))], False]
>>> [element_of(house, 2, (1,)), lost(house, (1, (1,), ()), 0), lost(house, (0, (1,), ()), 1)]
[(1, (1,), ()), (0, (0,), ()), (0, (1,), (1,))]
>>> [lost(house, (0, (1,), (1,)), 0), home_worth(house, (0, (0,), ()), 2), home_worth(house, (0, (1,), (1,)), 0)]
[(0, (0,), ()), (0,), None]
>>> [hub_size(house), is_hub(house, (3, ((0, 1), (0, 2), (0, 2)), ((0, 1, 0), (0, 0, 2), (0, 0, 2))))]
[3, True]
>>> [is_whole(house, whole_of(house)), is_whole(house, (3, ((0, 1), (0, 2), (0, 2)), ((0, 0, 0), (0, 1, 2))))]
[True, True]
'''

STAGE_7 = '''
>>> from wherebeen.goodlots import fewest_cuts, greatest_good, least_bad, pieces_of
>>> from wherebeen.rings import is_still, least_rings, round_of, still_rings
>>> from wherebeen.shortcuts import may_add, road_by
>>> form, copy, flip = (("p", ("pick", 2)),), (("copy", 0),), (("table", ("copy", 0), (1, 0)),)
>>> chain = ((form, form, form), ((0, 1, copy, copy), (1, 2, copy, copy)))
>>> [may_add(chain, (0, 2, flip, flip)), may_add(chain, road_by(chain, (0, 1, 2)))]
[('ring', (0, 1, 2, 0), (0,)), None]
>>> house = ((form, form, form), ((0, 1, copy, copy), (0, 2, flip, flip), (1, 2, copy, copy)))
>>> [least_rings(house), still_rings(house), is_still(house, (0, 1, 2, 0)), round_of(house, (0, 1, 2, 0))]
[[(0, 1, 2, 0)], [], False, {(0,): (1,), (1,): (0,)}]
>>> [greatest_good(house), least_bad(house), fewest_cuts(house)]
[[(0, 1), (0, 2), (1, 2)], [(0, 1, 2)], (0,)]
>>> pieces_of(house, (1,))
[((0, 2), (1,)), ((1,), ())]
'''

STAGE_8 = '''
>>> from wherebeen.fates import lost_field, sure_fields
>>> from wherebeen.goneback import gone_back, gone_to, merging_lots
>>> from wherebeen.pasts import first_worth, greatest_past, pasts_of, surely_not_gone
>>> form = (("a", ("pick", 2)), ("b", ("pick", 2)), ("c", ("word",)))
>>> left, right = (("say", 0), ("copy", 1), ("copy", 2)), (("copy", 0), ("say", 0), ("copy", 2))
>>> house = ((form, form, form), ((0, 1, left, left), (0, 2, right, right)))
>>> [sure_fields(house, 0), lost_field(house, 0, "a"), lost_field(house, 0, "c")]
[('c',), ((0, 1, 0), (1, 0, '~2')), None]
>>> [gone_back(house, 0, (1, 1, "x"), (0, 1)), gone_to(house, 1, (1, 1, "x"), (0, 1), 2)]
[(0, 0, 'x'), (0, 0, 'x')]
>>> [merging_lots(house, 0, (1, 1, "x"), (0, 1, "x")), merging_lots(house, 0, (1, 1, "x"), (1, 1, "y"))]
[[(0,)], []]
>>> [pasts_of(house, 0, (0, 1, "x")), greatest_past(house, 0, (0, 1, "x")), surely_not_gone(house, 0, (0, 1, "x"))]
[[(), (0,)], (0,), (1,)]
>>> pasts_of(house, 1, (0, 0, "x"))
[(), (0,), (0, 1)]
'''

STAGE_9 = '''
>>> from wherebeen.charters import breaking_way, greatest_charters, is_charter, lot_of
>>> from wherebeen.joining import join_fault, joined, spots_joined
>>> from wherebeen.newforms import clash, looking_form
>>> form = (("a", ("pick", 2)), ("b", ("pick", 2)))
>>> a, b = (("say", 0), ("copy", 1)), (("copy", 0), ("say", 0))
>>> swap, led = (("copy", 1), ("copy", 0)), (("copy", 1), ("copy", 1))
>>> [is_charter(form, (a, b)), is_charter(form, (swap,)), greatest_charters(form, (a, b, swap, led))]
[True, False, [(0, 1), (3,)]]
>>> [lot_of(form, (a, b), (("say", 0), ("say", 0))), lot_of(form, (a, b), swap), clash(form, a, b)]
[(0, 1), None, None]
>>> house = ((form,), ())
>>> one, other = looking_form(house, 0, a), looking_form(house, 0, led)
>>> [breaking_way(one, 0, (a,)), breaking_way(one, 1, (b,)), join_fault(one, 0, other, 0)[:2]]
[None, (1, 0), ((0, 1), (0, 1))]
>>> [spots_joined(one, 1, other, 0), joined(one, 1, other, 0)[1] == ((0, 1, a, a), (1, 2, led, led))]
[[1, 2], True]
'''

STAGE_10 = '''
>>> from wherebeen.deeds import keeps_order, unlike_deed
>>> from wherebeen.families import are_free, family_by, is_family, unlike_road
>>> from wherebeen.rows import moved_ahead, row_led
>>> form = (("a", ("pick", 2)), ("b", ("pick", 2)), ("c", ("word",)))
>>> left, right = (("say", 0), ("copy", 1), ("copy", 2)), (("copy", 0), ("say", 0), ("copy", 2))
>>> house = ((form, form, form), ((0, 1, left, left), (0, 2, right, right)))
>>> swap, new = (("copy", 1), ("copy", 0), ("copy", 2)), (("copy", 0), ("copy", 1), ("say", "new"))
>>> [unlike_deed(house, (0, swap)), keeps_order(house, (0, new)), is_family(house, family_by(house, (0, new)))]
[((0, 1), (0, 1, '~2')), True, True]
>>> [unlike_road(house, (swap, swap, swap)), are_free(house, (new, new, new), (left, left, left))]
[(0, 0, (0, 1, '~2')), True]
>>> row = (0, (("go", 1), ("do", 0), ("go", 0), ("go", 1)))
>>> [moved_ahead(row), row_led(house, ((new, new, new),), row, (1, 1, "x"))]
[(0, (('do', 0), ('go', 1), ('go', 0), ('go', 1))), (0, 1, 'new')]
'''

STAGE_11 = '''
>>> from wherebeen.copies import could_have_been, least_tellers, told_apart
>>> from wherebeen.fields import in_order
>>> from wherebeen.mends import is_mend, least_mends, made_plain
>>> form = (("a", ("pick", 2)), ("b", ("pick", 2)))
>>> left, right = (("say", 0), ("copy", 1)), (("copy", 0), ("say", 0))
>>> house = ((form, form, form), ((0, 1, left, left), (0, 2, right, right)))
>>> [could_have_been(house, 0, (((0,), (0, 1)),))]
[[(0, 1), (1, 1)]]
>>> [told_apart(house, 0, ((0,),)), told_apart(house, 0, ((0,), (1,))), least_tellers(house, 0, ((0,), (1,), (0, 1)))]
[((0, 0), (1, 0)), None, [(0, 1)]]
>>> in_order(house, 1, (1, 0))[1][0]
(0, 1, (('copy', 1), ('say', 0)), (('say', 0), ('copy', 0)))
>>> pick, turned = (("p", ("pick", 2)),), (("table", ("copy", 0), (1, 0)),)
>>> bad = ((pick, pick), ((0, 1, (("copy", 0),), turned),))
>>> [least_mends(bad, ((0, 0, 0), (0, 1, 0))), is_mend(bad, ((0, 1, 0),)), made_plain(bad, ((0, 1, 0),))[1]]
[[((0, 0, 0), (0, 1, 0))], False, ((0, 1, (('copy', 0),), (('say', 0),)),)]
'''

STAGE_12 = '''
>>> from wherebeen.book import Book
>>> from wherebeen.desk import Desk
>>> form, copy, zero = (("p", ("pick", 2)),), (("copy", 0),), (("say", 0),)
>>> book = Book(((form, form), ((0, 1, copy, copy),)))
>>> [book.promise(("sure", 0, "p")), book.add_form(1, form, copy, copy), len(book.house_now()[1]), book.promises()]
[None, 2, 2, [('sure', 0, 'p')]]
>>> [book.drop_form(2), book.undo(), book.withdraw(0), book.put_road(0, zero, zero), book.house_now()[1][0][2]]
[None, None, ('sure', 0, 'p'), None, (('say', 0),)]
>>> desk = Desk("form\\nfield p pick 2\\nform\\nfield p pick 2\\nroad 0 1\\nthere p copy p\\nback p copy p")
>>> lines = ["sure 0 p", "put 0 there p say 0 back p say 0", "withdraw 0", "put 0 there p say 0 back p say 0"]
>>> [desk.execute(line) for line in lines + ["lead 0 1 0 with 1", "same 0 1 0 and 0", "promises"]]
[['done'], ['refused'], ['done'], ['done'], ['p 0'], ['no'], []]
'''


class Examples(unittest.TestCase):
    def check(self, text):
        test = doctest.DocTestParser().get_doctest(text, {}, "DOC.md", "DOC.md", 0)
        said = []
        result = doctest.DocTestRunner(verbose=False).run(test, out=said.append)
        self.assertGreater(result.attempted, 0)
        self.assertEqual(result.failed, 0, "".join(said))

    def test_forms_and_worths(self):
        self.check(STAGE_1)

    def test_texts(self):
        self.check(STAGE_2)

    def test_turns(self):
        self.check(STAGE_3)

    def test_ways_and_carrier(self):
        self.check(STAGE_4)

    def test_where_been(self):
        self.check(STAGE_5)

    def test_homes_and_wholes(self):
        self.check(STAGE_6)

    def test_rings_and_lots(self):
        self.check(STAGE_7)

    def test_fates_and_pasts(self):
        self.check(STAGE_8)

    def test_joining(self):
        self.check(STAGE_9)

    def test_deeds_and_families(self):
        self.check(STAGE_10)

    def test_copies_and_mends(self):
        self.check(STAGE_11)

    def test_book_and_desk(self):
        self.check(STAGE_12)


if __name__ == "__main__":
    unittest.main()
