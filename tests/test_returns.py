"""[25] Returns by ways."""

import unittest

from goods import COPY, FLIP, FORK, ONE, PICK, TWO, ZERO, any_small_house, told_led, told_simple_ways, told_there_and_back
from samples import WORD, any_house, any_way, any_worth, chance_of
from test_probes import JUST, MORE
from test_turns import chain
from wherebeen.errors import TooMany
from wherebeen.probes import tests_many, tests_of
from wherebeen.returns import change_returns, is_lossless, returned, unlike_return
from wherebeen.turns import plain_turn
from wherebeen.ways import turn_of

FULL = (("name", WORD), ("tags", ("row", WORD)))
CARD = (("name", WORD), ("tag", ("maybe", WORD)))
CARDS = ((FULL, CARD), ((0, 1, (("copy", 0), ("first", 1)), (("copy", 0), ("rowof", ("copy", 1)))),))
UNLIKE = ((PICK,) * 3, ((0, 1, ZERO, ZERO), (0, 2, ONE, ONE)))
JUST_HOUSE = ((PICK, JUST), ((0, 1, tuple(("say", value) for value in (None, None, None, 0, "")), ZERO),))
MORE_HOUSE = ((PICK, PICK, MORE), ((0, 1, COPY, COPY), (1, 2, (("say", ()),) * 3, ZERO)))


class Returns(unittest.TestCase):
    def test_returned(self):
        self.assertEqual(returned(CARDS, (0, 1), ("x", ("a", "b"))), ("x", ("a",)))
        self.assertEqual(returned(CARDS, (1, 0), ("x", ("a",))), ("x", ("a",)))
        self.assertEqual(returned(FORK, (0, 1), (1, 1, "x")), (0, 1, "x"))
        self.assertEqual(returned(FORK, (1, 0, 2), (1, 1, "x")), (0, 0, "x"))
        self.assertEqual(returned(FORK, (1, 0, 2, 0), (1, 1, "x")), (0, 0, "x"))

    def test_ways_of_one_item(self):
        for worth in ((0, 1, "~"), (1, 1, "")):
            self.assertEqual(returned(FORK, (2,), worth), worth)
        self.assertIs(is_lossless(FORK, (2,)), True)
        self.assertIs(change_returns(FORK, (0,), (0, 1)), True)
        self.assertIsNone(unlike_return(UNLIKE, (0, 2), (0,)))
        self.assertIsNone(unlike_return(UNLIKE, (0,), (0,)))

    def test_lossless(self):
        self.assertIs(is_lossless(CARDS, (0, 1)), False)
        self.assertIs(is_lossless(CARDS, (1, 0)), True)
        self.assertIs(is_lossless(CARDS, (1, 0, 1)), True)
        self.assertIs(is_lossless(((PICK, PICK), ((0, 1, FLIP, FLIP),)), (0, 1)), True)
        self.assertIs(is_lossless(((PICK, PICK), ((0, 1, FLIP, COPY),)), (0, 1)), False)

    def test_change_places(self):
        self.assertIs(change_returns(FORK, (0, 1), (0, 2)), True)
        self.assertIsNone(unlike_return(FORK, (0, 1), (0, 2)))
        self.assertIs(change_returns(UNLIKE, (0, 1), (0, 2)), False)
        self.assertEqual(unlike_return(UNLIKE, (0, 1), (0, 2)), (0,))
        self.assertIs(change_returns(UNLIKE, (1, 0), (1, 0, 2)), True)
        self.assertIsNone(unlike_return(UNLIKE, (1, 0), (1, 0)))

    def test_first_test_for_which_they_do_not(self):
        form = (("a", TWO), ("w", WORD), ("b", ("maybe", TWO)))
        swap = (("is", 2), ("copy", 1), ("some", ("copy", 0)))
        clear = (("copy", 0), ("copy", 1), ("say", None))
        house = ((form,) * 3, ((0, 1, swap, plain_turn(form)), (0, 2, clear, clear)))
        # "swap, then clear" leaves None in b; "clear, then swap" leaves 0 in a
        self.assertEqual(unlike_return(house, (0, 1), (0, 2)), (0, "~1", None))
        self.assertEqual(unlike_return(house, (0, 2), (0, 1)), (0, "~1", None))
        late = (("when", ("else", ("copy", 2), ("say", 0)), (("copy", 0), ("say", 1))), ("copy", 1), ("copy", 2))
        house = ((form,) * 3, ((0, 1, late, plain_turn(form)), (0, 2, clear, clear)))
        self.assertEqual(unlike_return(house, (0, 1), (0, 2)), (0, "~1", (1,)))

    def test_ways_of_sixty(self):
        house = ((PICK, PICK, PICK), ((0, 1, (chain(60),), (chain(60),)), (0, 2, (chain(59),), (chain(60),))))
        way, other = (0, 1) * 30, (0, 2) * 30
        for whole in (way, other, way + way[-2::-1], other + other[-2::-1]):
            with self.assertRaises(TooMany):
                turn_of(house, whole)
        self.assertEqual(returned(house, way, (1,)), (1,))
        self.assertEqual(returned(house, other, (1,)), (0,))
        self.assertIs(is_lossless(house, way), True)
        self.assertIs(is_lossless(house, other), False)
        self.assertIs(change_returns(house, way, other), True)
        self.assertIsNone(unlike_return(house, way, other))
        house = ((PICK, PICK, PICK), ((0, 1, (chain(60),), (chain(59),)), (0, 2, ONE, (chain(60),))))
        self.assertEqual(unlike_return(house, (0, 1) * 30, (0, 2) * 30), (0,))
        self.assertEqual(unlike_return(house, (0, 1) * 31, (0, 2) * 31), (0,))

    def test_by_chance(self):
        unlike = lossless = 0
        for seed in range(300):
            chance = chance_of(seed)
            house = any_house(chance, most=2) if seed % 2 else any_small_house(chance)
            if max(map(tests_many, house[0])) > 100:
                continue
            spot = chance.randrange(len(house[0]))
            ways = [any_way(chance, house, spot, 9) for _ in range(2)] + told_simple_ways(house, spot)[:3]
            for way in ways:
                back = told_there_and_back(way)
                worth = any_worth(chance, house[0][spot])
                self.assertEqual(returned(house, way, worth), told_led(house, back, worth))
                wanted = all(told_led(house, back, test) == test for test in tests_of(house[0][spot]))
                self.assertIs(is_lossless(house, way), wanted)
                lossless += wanted
                for other in ways:
                    again = told_there_and_back(other)
                    found = [test for test in tests_of(house[0][spot]) if told_led(house, back + again[1:], test)
                             != told_led(house, again + back[1:], test)]
                    self.assertEqual(unlike_return(house, way, other), found[0] if found else None)
                    self.assertIs(change_returns(house, way, other), not found)
                    unlike += bool(found)
        self.assertGreater(min(unlike, lossless), 50)

    def test_few_by_any_form(self):
        self.assertEqual(returned(JUST_HOUSE, (0, 1), (1,)), (0,))
        self.assertIs(is_lossless(JUST_HOUSE, (1, 0)), False)
        self.assertIsNone(unlike_return(JUST_HOUSE, (1, 0), (1, 0)))
        self.assertIs(change_returns(JUST_HOUSE, (0, 1), (0,)), True)
        for call in (lambda: returned(MORE_HOUSE, (0,), (1,)), lambda: is_lossless(MORE_HOUSE, (0, 1)),
                     lambda: unlike_return(MORE_HOUSE, (0, 1), (0,)), lambda: change_returns(MORE_HOUSE, (0,), (0,))):
            with self.assertRaises(TooMany) as caught:
                call()
            self.assertEqual(caught.exception.most, 500)


if __name__ == "__main__":
    unittest.main()
