"""[20] What turns of a form into itself do to all worths."""

import itertools
import unittest

from samples import WORD, any_form, any_turn, chance_of
from test_probes import FEW_KINDS, JUST, MORE, worths_of
from wherebeen.errors import TooMany
from wherebeen.shapes import change_places, comes_back, is_plain, is_settled, kept_fields
from wherebeen.turns import plain_turn, turned

TWO = ("pick", 2)
PAIR = (("a", TWO), ("b", TWO))
TAGS = (("name", WORD), ("tags", ("row", WORD)))
FLIP = (("table", ("copy", 0), (1, 0)),)
PICK = (("p", TWO),)


class Shapes(unittest.TestCase):
    def test_plain(self):
        self.assertIs(is_plain(PAIR, (("copy", 0), ("copy", 1))), True)
        self.assertIs(is_plain(PAIR, (("copy", 0), ("table", ("copy", 1), (0, 1)))), True)
        self.assertIs(is_plain(PAIR, (("copy", 1), ("copy", 0))), False)
        self.assertIs(is_plain(TAGS, (("copy", 0), ("rowof", ("first", 1)))), False)
        self.assertIs(is_plain(TAGS, (("say", "x"), ("copy", 1))), False)

    def test_settled(self):
        self.assertIs(is_settled(PICK, FLIP), False)
        self.assertIs(is_settled(PICK, (("say", 1),)), True)
        self.assertIs(is_settled(PAIR, (("copy", 1), ("copy", 1))), True)
        self.assertIs(is_settled(PAIR, (("copy", 1), ("copy", 0))), False)
        self.assertIs(is_settled(PAIR, (("copy", 1), ("say", 0))), False)
        self.assertIs(is_settled(TAGS, (("copy", 0), ("rowof", ("first", 1)))), True)

    def test_change_places(self):
        left, right, swap = (("say", 0), ("copy", 1)), (("copy", 0), ("say", 0)), (("copy", 1), ("copy", 0))
        self.assertIs(change_places(PAIR, left, right), True)
        self.assertIs(change_places(PAIR, left, swap), False)
        self.assertIs(change_places(PAIR, swap, left), False)
        self.assertIs(change_places(PICK, (("say", 0),), (("say", 1),)), False)
        self.assertIs(change_places(PICK, FLIP, FLIP), True)

    def test_kept(self):
        self.assertEqual(kept_fields(PAIR, (("copy", 1), ("copy", 1))), (1,))
        self.assertEqual(kept_fields(PAIR, (("copy", 0), ("when", ("copy", 0), (("copy", 1), ("copy", 1))))), (0, 1))
        self.assertEqual(kept_fields(PAIR, (("copy", 1), ("copy", 0))), ())
        self.assertEqual(kept_fields(TAGS, (("copy", 0), ("rowof", ("first", 1)))), (0,))
        self.assertEqual(kept_fields(TAGS, (("else", ("first", 1), ("copy", 0)), ("copy", 1))), (1,))

    def test_comes_back(self):
        card = (("name", WORD), ("tag", ("maybe", WORD)))
        there, back = (("copy", 0), ("first", 1)), (("copy", 0), ("rowof", ("copy", 1)))
        self.assertIs(comes_back(TAGS, there, back), False)
        self.assertIs(comes_back(card, back, there), True)
        self.assertIs(comes_back(PICK, FLIP, FLIP), True)
        self.assertIs(comes_back(PICK, FLIP, (("copy", 0),)), False)

    def test_turns_of_more_than_200_parts_together(self):
        part = ("copy", 0)
        for _ in range(59):
            part = ("table", part, (1, 0))
        five = tuple((name, TWO) for name in "abcde")
        turn = (part,) + tuple(("copy", at) for at in range(1, 5))
        self.assertIs(is_settled(five, turn), False)
        self.assertIs(comes_back(five, turn, turn), True)
        self.assertIs(change_places(five, turn, turn), True)

    def test_just_500(self):
        plain = plain_turn(JUST)
        self.assertIs(is_plain(JUST, plain), True)
        self.assertIs(is_settled(JUST, plain), True)
        self.assertIs(change_places(JUST, plain, plain), True)
        self.assertIs(comes_back(JUST, plain, plain), True)
        self.assertEqual(kept_fields(JUST, plain), (0, 1, 2, 3, 4))

    def test_more_than_500(self):
        plain = plain_turn(MORE)
        for call in (lambda: is_plain(MORE, plain), lambda: is_settled(MORE, plain), lambda: kept_fields(MORE, plain),
                     lambda: change_places(MORE, plain, plain), lambda: comes_back(MORE, plain, plain)):
            with self.assertRaises(TooMany) as caught:
                call()
            self.assertEqual(caught.exception.most, 500)

    def test_other_forms_may_have_more_tests(self):
        there, back = (("say", ()),) * 3, (("say", 0),)
        self.assertIs(comes_back(PICK, there, back), False)

    def test_by_chance(self):
        settled = changing = 0
        for seed in range(300):
            chance = chance_of(seed)
            form = any_form(chance, FEW_KINDS, 3)
            one, other = any_turn(chance, form, form, 3), any_turn(chance, form, form, 3)
            worths = list(itertools.islice(worths_of(form), 1500))
            firsts = [turned(one, worth) for worth in worths]
            others = [turned(other, worth) for worth in worths]
            if len(worths) == 1500:
                continue
            self.assertIs(is_plain(form, one), firsts == worths)
            self.assertIs(is_settled(form, one), [turned(one, worth) for worth in firsts] == firsts)
            changes = [turned(other, worth) for worth in firsts] == [turned(one, worth) for worth in others]
            self.assertIs(change_places(form, one, other), changes)
            self.assertIs(comes_back(form, one, other), [turned(other, worth) for worth in firsts] == worths)
            kept = [at for at in range(len(form)) if all(a[at] == b[at] for a, b in zip(worths, firsts))]
            self.assertEqual(kept_fields(form, one), tuple(kept))
            settled += is_settled(form, one)
            changing += change_places(form, one, other)
        self.assertGreater(min(settled, changing), 30)


if __name__ == "__main__":
    unittest.main()
