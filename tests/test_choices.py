"""wherebeen.choices, on which [54] rests: a choice for each unknown, such that all links hold."""

import itertools
import unittest

from samples import chance_of
from wherebeen.choices import first_choice


def holds(chosen, links):
    return all(over[chosen[one]] == chosen[other] for one, other, over in links)


def told_any(left, links):
    return any(holds(dict(zip(left, row)), links) for row in itertools.product(*left.values()))


class Choices(unittest.TestCase):
    def test_some(self):
        self.assertEqual(first_choice({}, []), {})
        self.assertEqual(first_choice({"a": [2]}, []), {"a": 2})
        self.assertEqual(first_choice({"a": [0, 1], "b": [1]}, [("a", "b", [0, 1])]), {"a": 1, "b": 1})
        self.assertIsNone(first_choice({"a": [0, 1], "b": [2]}, [("a", "b", [0, 1])]))

    def test_none_although_each_link_alone_leaves_all(self):
        # going round turns each choice into the other one
        left = {"a": [0, 1], "b": [0, 1], "c": [0, 1]}
        turning = [("a", "b", [0, 1]), ("b", "c", [0, 1]), ("c", "a", [1, 0])]
        self.assertIsNone(first_choice(left, turning))
        self.assertIsNotNone(first_choice(left, turning[:2] + [("c", "a", [0, 1])]))
        self.assertEqual(left, {"a": [0, 1], "b": [0, 1], "c": [0, 1]})

    def test_by_chance(self):
        rows = []
        for seed in range(600):
            chance = chance_of(seed)
            unknowns = [(at // 2, at % 2) for at in range(chance.randint(2, 6))]
            left = {unknown: list(range(3)) if chance.random() < 0.9 else [chance.randrange(3)] for unknown in unknowns}
            links = []
            for _ in range(chance.randint(1, 7)):
                one, other = chance.sample(unknowns, 2)
                links.append((one, other, chance.choice(([0, 1, 2], [1, 2, 0], [1, 0, 2], [0, 0, 1], [2, 2, 2], [0, 1, 1]))))
            found = first_choice(left, links)
            self.assertIs(found is not None, told_any(left, links))
            if found is not None:
                self.assertEqual(list(found), unknowns)
                self.assertTrue(holds(found, links))
                self.assertTrue(all(found[unknown] in left[unknown] for unknown in unknowns))
            rows.append(found is None)
        self.assertGreater(min(rows.count(True), rows.count(False)), 100)


if __name__ == "__main__":
    unittest.main()
