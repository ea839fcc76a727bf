"""[18] Turns."""

import unittest

from samples import any_form, any_turn, any_worth, chance_of
from wherebeen.errors import TooMany
from wherebeen.expressions import parts_many
from wherebeen.forms import is_turn
from wherebeen.turns import behind, plain_turn, turn_parts, turned

WORD, TWO = ("word",), ("pick", 2)
FORM = (("name", WORD), ("tags", ("row", WORD)))
PICK = (("p", TWO),)


def chain(many):
    """An expression of so many parts for a pick of two, by PICK."""
    part = ("copy", 0)
    for _ in range(many - 1):
        part = ("table", part, (1, 0))
    return part


class Turns(unittest.TestCase):
    first = (("copy", 0), ("rowof", ("first", 1)))
    swapped = (("else", ("first", 1), ("copy", 0)), ("one", ("copy", 0)))

    def test_turned(self):
        self.assertEqual(turned(self.first, ("x", ("a", "b"))), ("x", ("a",)))
        self.assertEqual(turned(self.swapped, ("x", ("a", "b"))), ("a", ("x",)))
        self.assertEqual(turned((("is", 1),), ("x", ())), (0,))

    def test_plain(self):
        self.assertEqual(plain_turn(FORM), (("copy", 0), ("copy", 1)))
        for seed in range(50):
            chance = chance_of(seed)
            form = any_form(chance)
            worth = any_worth(chance, form)
            self.assertTrue(is_turn(form, form, plain_turn(form)))
            self.assertEqual(turned(plain_turn(form), worth), worth)

    def test_parts(self):
        self.assertEqual([turn_parts(self.first), turn_parts(self.swapped), turn_parts(plain_turn(FORM))], [3, 5, 2])
        self.assertEqual(turn_parts((chain(60),) * 5), 300)

    def test_behind(self):
        self.assertEqual(behind(self.first, self.swapped), (("else", ("first", 1), ("copy", 0)), ("one", ("copy", 0))))
        self.assertEqual(behind(self.swapped, self.first), (("else", ("first", 1), ("copy", 0)),
                                                            ("rowof", ("some", ("copy", 0)))))
        self.assertEqual(behind(plain_turn(FORM), self.first), self.first)
        self.assertEqual(behind(self.first, plain_turn(FORM)), self.first)

    def test_just_two_hundred(self):
        done = behind((chain(100),), (chain(101),))
        self.assertEqual(turn_parts(done), 200)
        five = tuple((name, TWO) for name in "abcde")
        done = behind((chain(40),), (("copy", 0),) * 5)
        self.assertEqual([turn_parts(done), len(done)], [200, 5])
        self.assertTrue(is_turn(PICK, five, done))
        self.assertEqual(behind(done, plain_turn(five)), done)

    def test_two_hundred_and_one(self):
        for turn, later in (((chain(101),), (chain(101),)), ((chain(1),), (chain(201),)), ((chain(201),), (chain(1),)),
                            ((chain(40),), (("copy", 0),) * 4 + (chain(2),)), ((chain(60),), (chain(60),) * 5)):
            with self.assertRaises(TooMany) as caught:
                behind(turn, later)
            self.assertEqual(caught.exception.most, 200)
        self.assertEqual(turn_parts(behind((chain(201),), (("say", 0),))), 1)

    def test_by_chance(self):
        refused = 0
        for seed in range(300):
            chance = chance_of(seed)
            forms = [any_form(chance) for _ in range(3)]
            one, other = any_turn(chance, forms[0], forms[1]), any_turn(chance, forms[1], forms[2])
            try:
                both = behind(one, other)
            except TooMany:
                refused += 1
                continue
            self.assertTrue(is_turn(forms[0], forms[2], both))
            self.assertLessEqual(sum(map(parts_many, both)), 200)
            for _ in range(5):
                worth = any_worth(chance, forms[0])
                self.assertEqual(turned(both, worth), turned(other, turned(one, worth)))
        self.assertLess(refused, 100)


if __name__ == "__main__":
    unittest.main()
