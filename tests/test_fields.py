"""[60] The fields of a house: in another order, or one more."""

import unittest

from goods import BITS, COPY, FORK, LEFT, PICK, TWO, alike_house, all_copied, any_small_house
from samples import KINDS, WORD, any_form, any_house, any_way, any_worth, chance_of
from test_faults import ALONE, ROAD
from test_forms import FORM
from test_returns import CARD, CARDS, FULL, MORE_HOUSE
from wherebeen.errors import Taken, TooMany
from wherebeen.faults import is_good
from wherebeen.fields import in_order, widened
from wherebeen.forms import is_house
from wherebeen.probes import tests_many
from wherebeen.ways import led

SIDES = (("a", TWO), ("b", TWO))


def inverse(order):
    return tuple(order.index(at) for at in range(len(order)))


class InOrder(unittest.TestCase):
    def test_turns_to_it_and_from_it(self):
        found = in_order(CARDS, 0, (1, 0))
        self.assertEqual(found, ((FULL[::-1], CARD), ((0, 1, (("copy", 1), ("first", 0)), (("rowof", ("copy", 1)), ("copy", 0))),)))
        found = in_order(CARDS, 1, (1, 0))
        self.assertEqual(found, ((FULL, CARD[::-1]), ((0, 1, (("first", 1), ("copy", 0)), (("copy", 1), ("rowof", ("copy", 0)))),)))

    def test_each_sort_of_expression(self):
        one = (("w", WORD), ("r", ("row", WORD)), ("p", TWO))
        other = (("p", TWO), ("w", WORD), ("m", ("maybe", WORD)), ("r", ("row", WORD)))
        there = (("table", ("is", 1), (1, 0)), ("else", ("first", 1), ("copy", 0)),
                 ("when", ("copy", 2), (("some", ("say", "x")), ("first", 1))), ("one", ("else", ("first", 1), ("copy", 0))))
        back = (("say", ""), ("rowof", ("copy", 2)), ("copy", 0))
        house = ((one, other), ((0, 1, there, back),))
        self.assertTrue(is_house(house))
        # the fields of the one stand as r, p, w
        moved = (("table", ("is", 0), (1, 0)), ("else", ("first", 0), ("copy", 2)),
                 ("when", ("copy", 1), (("some", ("say", "x")), ("first", 0))), ("one", ("else", ("first", 0), ("copy", 2))))
        self.assertEqual(in_order(house, 0, (1, 2, 0)), (((one[1], one[2], one[0]), other), (
            (0, 1, moved, (back[1], back[2], back[0])),)))
        moved = (("say", ""), ("rowof", ("copy", 1)), ("copy", 3))
        self.assertEqual(in_order(house, 1, (3, 2, 1, 0)), ((one, other[::-1]), ((0, 1, there[::-1], moved),)))

    def test_all_roads_of_the_form(self):
        right = (("copy", 0), ("say", 1))
        left = (("say", 0), ("copy", 1))
        house = ((SIDES,) * 3, ((0, 1, left, right), (0, 2, left, left), (1, 2, right, right)))
        self.assertEqual(in_order(house, 1, (1, 0)), ((SIDES, SIDES[::-1], SIDES), (
            (0, 1, (("copy", 1), ("say", 0)), (("copy", 1), ("say", 1))), house[1][1],
            (1, 2, (("copy", 1), ("say", 1)), (("say", 1), ("copy", 0))))))

    def test_the_same_order(self):
        for house in (FORK, CARDS, ALONE, ROAD, MORE_HOUSE):
            for spot, form in enumerate(house[0]):
                self.assertEqual(in_order(house, spot, tuple(range(len(form)))), house)

    def test_a_form_alone(self):
        self.assertEqual(in_order(((FORM,), ()), 0, (4, 0, 3, 1, 2)), ((tuple(FORM[at] for at in (4, 0, 3, 1, 2)),), ()))

    def test_by_chance_and_back_again(self):
        for seed in range(200):
            chance = chance_of(seed)
            house = any_house(chance, deepest=4)
            spot = chance.randrange(len(house[0]))
            order = tuple(chance.sample(range(len(house[0][spot])), len(house[0][spot])))
            found = in_order(house, spot, order)
            self.assertTrue(is_house(found))
            self.assertEqual(found[0][spot], tuple(house[0][spot][at] for at in order))
            self.assertEqual(in_order(found, spot, inverse(order)), house)
            way = any_way(chance, house, chance.randrange(len(house[0])), 5)
            worth = any_worth(chance, house[0][way[0]])
            given = tuple(worth[at] for at in order) if way[0] == spot else worth
            wanted = led(house, way, worth)
            self.assertEqual(led(found, way, given), tuple(wanted[at] for at in order) if way[-1] == spot else wanted)

    def test_good_exactly_if(self):
        rows = []
        for seed in range(150):
            chance = chance_of(seed)
            house = any_small_house(chance)
            if max(map(tests_many, house[0])) <= 60:
                spot = chance.randrange(len(house[0]))
                order = tuple(chance.sample(range(len(house[0][spot])), len(house[0][spot])))
                self.assertIs(is_good(in_order(house, spot, order)), is_good(house))
                rows.append(is_good(house))
        self.assertGreater(min(rows.count(True), rows.count(False)), 20)

    def test_any_number_of_tests(self):
        found = in_order(MORE_HOUSE, 2, (2, 0, 1))
        self.assertEqual([field[0] for field in found[0][2]], ["c", "a", "b"])


class Widened(unittest.TestCase):
    def test_all_forms_and_turns(self):
        found = widened(CARDS, "mark", ("maybe", TWO))
        mark = (("mark", ("maybe", TWO)),)
        self.assertEqual(found, ((FULL + mark, CARD + mark), (
            (0, 1, CARDS[1][0][2] + (("copy", 2),), CARDS[1][0][3] + (("copy", 2),)),)))
        house = ((PICK, BITS), ((0, 1, (("copy", 0), ("say", 0), ("say", "")), (("copy", 1),)),))
        found = widened(house, "z", WORD)
        self.assertEqual(found[1], ((0, 1, (("copy", 0), ("say", 0), ("say", ""), ("copy", 1)), (("copy", 1), ("copy", 3))),))
        self.assertEqual(widened(ALONE, "q", ("row", WORD)), (((("p", TWO), ("q", ("row", WORD))),), ()))

    def test_by_chance(self):
        for seed in range(150):
            chance = chance_of(seed)
            house, kind = any_house(chance, most=4, deepest=3), chance.choice(KINDS)
            found = widened(house, "fresh", kind)
            self.assertTrue(is_house(found))
            self.assertEqual([form[-1] for form in found[0]], [("fresh", kind)] * len(house[0]))
            way = any_way(chance, house, chance.randrange(len(house[0])), 6)
            worth, more = any_worth(chance, house[0][way[0]]), any_worth(chance, (("fresh", kind),))
            self.assertEqual(led(found, way, worth + more), led(house, way, worth) + more)

    def test_good_exactly_if(self):
        for seed in range(80):
            chance = chance_of(seed)
            house = any_small_house(chance)
            if max(map(tests_many, house[0])) <= 60:
                self.assertIs(is_good(widened(house, "fresh", TWO)), is_good(house))

    def test_five_fields_and_names_that_are_taken(self):
        five = tuple((name, TWO) for name in "abcde")
        four = five[:4]
        self.assertEqual(len(widened(alike_house(four, [(0, 1)], [all_copied(four)], 2), "e", WORD)[0][0]), 5)
        for forms in ((five, PICK), (PICK, five), (five, five)):
            turns = [tuple(("say", 0) for _ in form) for form in forms]
            house = (forms, ((0, 1, turns[1], turns[0]),))
            # too many fields go ahead of names, whichever form comes first
            for name in ("z", "p", "a", "e"):
                with self.assertRaises(TooMany) as caught:
                    widened(house, name, WORD)
                self.assertEqual(caught.exception.most, 5)
        for house, names in ((CARDS, ("name", "tags", "tag")), (FORK, "abc"), (ALONE, "p")):
            for name in names:
                name = "".join(list(name))
                with self.assertRaises(Taken) as caught:
                    widened(house, name, TWO)
                self.assertIs(caught.exception.name, name)
        self.assertEqual(widened(ALONE, "pp", TWO)[0][0][1], ("pp", TWO))

    def test_any_number_of_tests(self):
        found = widened(MORE_HOUSE, "z", ("row", ("pick", 4)))
        self.assertEqual(tests_many(found[0][2]), 9 * tests_many(MORE_HOUSE[0][2]))
        self.assertEqual(widened(widened(MORE_HOUSE, "y", TWO), "z", TWO)[1][1][3][-2:], (("copy", 3), ("copy", 4)))
        for seed in range(20):
            form = any_form(chance_of(seed), most=4)
            if "zz" not in dict(form):
                self.assertEqual(widened(((form,), ()), "zz", WORD), ((form + (("zz", WORD),),), ()))

    def test_turns_stay_as_they_were(self):
        found = widened(FORK, "d", TWO)
        self.assertEqual([road[2][:3] for road in found[1]], [road[2] for road in FORK[1]])
        self.assertEqual(found[1][0][2], LEFT + (("copy", 3),))
        self.assertEqual(widened(((PICK, PICK), ((0, 1, COPY, COPY),)), "q", TWO)[1][0][2:], ((("copy", 0), ("copy", 1)),) * 2)


if __name__ == "__main__":
    unittest.main()
