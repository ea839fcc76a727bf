"""[42] What surely comes through."""

import unittest

from goods import (ALL_KINDS, COPY, FLIP, FORK, ONE, PICK, SIX_NINE, TWO, ZERO, all_copied, alike_house, any_small_house, good_house,
                   told_led, told_states)
from samples import WORD, any_house, any_worth, chance_of
from test_faults import ALONE, ROAD, TURNING
from test_outcomes import star_house
from test_returns import CARDS, JUST_HOUSE, MORE_HOUSE
from wherebeen.errors import NoField, TooMany
from wherebeen.fates import become, lost_field, sure_fields
from wherebeen.houses import neighbours
from wherebeen.probes import tests_many, tests_of
from wherebeen.worths import field_names, order_key

FIVE = tuple("abcde")
# each of the five forms comes to have 4,000 worths by these
TURNS = [(0, 1, 4, 2, 3), (0, 3, "x", 2, 1), (4, 2, "x", 0, 1), ("y", 3, 3, 4, 0)]
JUST_MANY = star_house(TURNS, 5)
NEARLY = star_house([(2, 3, 0, 1, 4), (4, 3, 0, 2, "y"), (4, 2, "y", 0, 1), (0, 1, 3, 3, 2)], 5)
LEAF = (("a", WORD), ("b", WORD))
# with a form more in which just the first two words of all these come up, and that leads back to one of them
ONE_MORE = (NEARLY[0] + (LEAF,), NEARLY[1] + ((0, 5, (("copy", 0), ("copy", 1)), (("say", "y"),) * 5),))


def told_become(house, spot, worth):
    found = {last: set() for last in range(len(house[0]))}
    for _, last, outcome in told_states(house, spot, worth):
        found[last].add(outcome)
    return {last: sorted(found[last], key=order_key) for last in found}


def told_sure(house, spot):
    return tuple(name for at, name in enumerate(field_names(house[0][spot])) if all(
        outcome[at] == test[at] for test in tests_of(house[0][spot]) for outcome in told_become(house, spot, test)[spot]))


def told_loss(house, spot, at):
    """The least of the shortest ways that lose a field, found by going over all ways that do unlike things to the tests."""
    tests = tests_of(house[0][spot])
    level = [((spot,), tuple(tests))]
    seen = {(spot, tuple(tests))}
    while level:
        for way, worths in sorted(level):
            lost = [test for test, worth in zip(tests, worths) if way[-1] == spot and worth[at] != test[at]]
            if lost:
                return (way, lost[0])
        later = []
        for way, worths in sorted(level):
            for near in neighbours(house, way[-1]):
                outcome = tuple(told_led(house, (way[-1], near), worth) for worth in worths)
                if (near, outcome) not in seen:
                    seen.add((near, outcome))
                    later.append((way + (near,), outcome))
        level = later
    return None


class Become(unittest.TestCase):
    def test_finite(self):
        self.assertEqual(become(ALONE, 0, (1,)), {0: [(1,)]})
        self.assertEqual(become(ROAD, 0, (1,)), {0: [(0,), (1,)], 1: [(0,), (1,)]})
        self.assertEqual(become(ROAD, 0, (0,)), {0: [(0,)], 1: [(0,)]})
        self.assertEqual(become(ROAD, 1, (1,)), {0: [(0,)], 1: [(0,), (1,)]})
        self.assertEqual(list(become(TURNING, 2, (1,))), [0, 1, 2])

    def test_others(self):
        self.assertEqual(become(CARDS, 0, ("x", ("a", "b"))), {0: [("x", ("a",)), ("x", ("a", "b"))], 1: [("x", ("a",))]})
        self.assertEqual(become(FORK, 2, (1, 1, "x")), {
            0: [(0, 0, "x"), (1, 0, "x")], 1: [(0, 0, "x")], 2: [(0, 0, "x"), (1, 0, "x"), (1, 1, "x")]})

    def test_order(self):
        form = (("m", ("maybe", TWO)), ("w", WORD))
        around = (("when", ("is", 0), (("some", ("say", 1)), ("when", ("else", ("copy", 0), ("say", 0)), (
            ("say", None), ("some", ("say", 0)))))), ("copy", 1))
        found = become(((form, form), ((0, 1, around, all_copied(form)),)), 0, ((0,), "x"))
        self.assertEqual(found, {0: [(None, "x"), ((0,), "x"), ((1,), "x")], 1: [(None, "x"), ((0,), "x"), ((1,), "x")]})

    def test_by_chance(self):
        for seed in range(250):
            chance = chance_of(seed)
            house = any_small_house(chance) if seed % 2 else any_house(chance, ALL_KINDS, 2, 4, 2)
            if max(map(tests_many, house[0])) <= 500:
                spot = chance.randrange(len(house[0]))
                worth = any_worth(chance, house[0][spot])
                self.assertEqual(list(become(house, spot, worth).items()), list(told_become(house, spot, worth).items()))

    def test_20000(self):
        found = become(JUST_MANY, 0, FIVE)
        self.assertEqual([len(worths) for worths in found.values()], [4000] * 5)
        with self.assertRaises(TooMany) as caught:
            become(ONE_MORE, 0, FIVE)
        self.assertEqual(caught.exception.most, 20000)
        self.assertLess(sum(map(len, become(ONE_MORE, 5, ("x", "z")).values())), 20000)
        found = become(NEARLY, 0, FIVE)
        self.assertEqual(sum(map(len, found.values())) + len({worth[:2] for worth in found[0]}), 20001)
        self.assertIn(("y",) * 5, found[0])

    def test_500(self):
        self.assertEqual(become(JUST_HOUSE, 0, (1,))[0], [(0,), (1,)])
        with self.assertRaises(TooMany) as caught:
            become(MORE_HOUSE, 0, (1,))
        self.assertEqual(caught.exception.most, 500)


class Sure(unittest.TestCase):
    def test_of_good_houses(self):
        self.assertEqual([sure_fields(FORK, spot) for spot in range(3)], [("c",)] * 3)
        self.assertEqual(sure_fields(ALONE, 0), ("p",))
        self.assertEqual([sure_fields(CARDS, 0), sure_fields(CARDS, 1)], [("name",), ("name", "tag")])
        self.assertEqual(sure_fields(((PICK, PICK), ((0, 1, FLIP, FLIP),)), 0), ("p",))

    def test_of_bad_houses(self):
        self.assertEqual([sure_fields(ROAD, 0), sure_fields(TURNING, 1)], [(), ()])
        form = (("z", TWO), ("w", WORD), ("a", WORD))
        swap, plain = (("copy", 0), ("copy", 2), ("copy", 1)), all_copied(form)
        self.assertEqual(sure_fields(((form, form), ((0, 1, swap, plain),)), 0), ("z",))
        self.assertEqual(sure_fields(((form, form), ((0, 1, swap, swap),)), 0), ("z", "w", "a"))
        flips = (("table", ("copy", 0), (1, 0)), ("copy", 1), ("copy", 2))
        self.assertEqual(sure_fields(((form, form), ((0, 1, flips, plain),)), 1), ("w", "a"))

    def test_lost(self):
        self.assertEqual(lost_field(FORK, 0, "a"), ((0, 1, 0), (1, 0, "~2")))
        self.assertEqual(lost_field(FORK, 0, "b"), ((0, 2, 0), (0, 1, "~2")))
        self.assertEqual(lost_field(FORK, 1, "b"), ((1, 0, 2, 0, 1), (0, 1, "~2")))
        self.assertIsNone(lost_field(FORK, 2, "c"))
        self.assertIsNone(lost_field(ALONE, 0, "p"))
        self.assertEqual(lost_field(ROAD, 0, "p"), ((0, 1, 0), (1,)))

    def test_least_of_the_shortest(self):
        house = ((PICK,) * 4, ((0, 1, COPY, COPY), (0, 2, FLIP, FLIP), (0, 3, ZERO, ONE), (1, 2, COPY, COPY), (2, 3, COPY, COPY)))
        self.assertEqual(lost_field(house, 0, "p"), ((0, 3, 0), (0,)))
        self.assertEqual(lost_field(house, 1, "p"), ((1, 0, 2, 1), (0,)))
        house = ((PICK,) * 4, ((0, 1, COPY, COPY), (0, 2, ONE, COPY), (0, 3, ZERO, COPY)))
        # both ways have three items; the former loses another test than the latter
        self.assertEqual(lost_field(house, 0, "p"), ((0, 2, 0), (0,)))
        self.assertEqual(lost_field(house, 1, "p"), ((1, 0, 2, 0, 1), (0,)))

    def test_not_before_a_road_is_gone_again(self):
        four = (("p", ("pick", 4)),)
        up = (("table", ("copy", 0), (1, 2, 3, 3)),)
        late = (("table", ("copy", 0), (0, 1, 2, 0)),)
        house = ((four,) * 3, ((0, 1, COPY, COPY), (1, 2, up, late)))
        self.assertEqual(lost_field(house, 0, "p"), told_loss(house, 0, 0))
        pair = (("a", TWO), ("b", TWO), ("w", WORD))
        carry = (("copy", 1), ("table", ("copy", 0), (1, 0)), ("when", ("copy", 1), (("copy", 2), ("say", "seen"))))
        house = ((pair,) * 2, ((0, 1, carry, all_copied(pair)),))
        for name in "abw":
            self.assertEqual(lost_field(house, 0, name), told_loss(house, 0, "abw".index(name)))

    def test_by_chance(self):
        lost = sure = longer = 0
        for seed in range(350):
            chance = chance_of(seed)
            house = any_small_house(chance) if seed % 2 else any_house(chance, (TWO, WORD, ("maybe", WORD), ("pick", 3)), 3, 4, 2)
            if max(map(tests_many, house[0])) > 40:
                continue
            spot = chance.randrange(len(house[0]))
            names = field_names(house[0][spot])
            self.assertEqual(sure_fields(house, spot), told_sure(house, spot))
            for at, name in enumerate(names):
                wanted = told_loss(house, spot, at)
                self.assertEqual(lost_field(house, spot, name), wanted)
                self.assertIs(wanted is None, name in sure_fields(house, spot))
                lost += wanted is not None
                sure += wanted is None
                longer += wanted is not None and len(wanted[0]) > 3
        self.assertGreater(min(lost, sure), 50)
        self.assertGreater(longer, 20)

    def test_no_field(self):
        for house, names in ((FORK, ("d", "aa", "p")), (CARDS, ("tag", "x"))):
            for name in names:
                with self.assertRaises(NoField) as caught:
                    lost_field(house, 0, name)
                self.assertEqual(caught.exception.name, name)
        self.assertIsNone(lost_field(CARDS, 1, "tag"))
        self.assertEqual(lost_field(CARDS, 0, "tags"), ((0, 1, 0), ("~0", ("~1", "~1~"))))

    def test_20000(self):
        self.assertEqual(sure_fields(JUST_MANY, 0), ())
        self.assertEqual(lost_field(JUST_MANY, 0, "a"), ((0, 3, 0), ("~0", "~1", "~2", "~3", "~4")))
        for call in (lambda: sure_fields(ONE_MORE, 0), lambda: lost_field(ONE_MORE, 0, "e")):
            with self.assertRaises(TooMany) as caught:
                call()
            self.assertEqual(caught.exception.most, 20000)
        with self.assertRaises(NoField):
            lost_field(ONE_MORE, 0, "f")

    def test_many_from_some_tests_only(self):
        # only a document with its mark becomes too many
        form = tuple((name, WORD) for name in "abcd") + (("e", ("maybe", WORD)),)
        sources = [(1, 2, 3, 0), (1, 0, 2, "w"), (0, 0, "x", 3), ("u", 1, 2, "y"), ("v", 1, "z", 3)]

        def turn(row):
            said = [("say", item) if isinstance(item, str) else ("copy", item) for item in row]
            return tuple(("when", ("is", 4), (("copy", at), part)) for at, part in enumerate(said)) + (("copy", 4),)

        plain = all_copied(form)
        house = ((form,) * 6, tuple((0, spot + 1, plain, turn(row)) for spot, row in enumerate(sources)))
        self.assertEqual(sum(map(len, become(house, 0, tuple("abcd") + (None,)).values())), 6)
        for call in (lambda: become(house, 0, tuple("abcd") + (("m",),)), lambda: sure_fields(house, 0),
                     lambda: lost_field(house, 0, "a"), lambda: lost_field(house, 0, "e")):
            with self.assertRaises(TooMany) as caught:
                call()
            self.assertEqual(caught.exception.most, 20000)

    def test_just_20000_from_one_test_and_more_together(self):
        form = tuple((name, WORD) for name in "abcd") + (("e", ("maybe", WORD)),)

        def part(at, item):
            said = ("say", item) if isinstance(item, str) else ("copy", item)
            if item == 4:
                said = ("else", ("copy", 4), ("say", ""))
            if at == 4:
                said = ("copy", 4) if item == 4 else ("some", said)
            return ("when", ("is", 4), (("copy", at), said))

        turns = [tuple(part(at, item) for at, item in enumerate(row)) for row in TURNS]
        plain = all_copied(form)
        house = ((form,) * 5, tuple((0, spot + 1, plain, turn) for spot, turn in enumerate(turns)))
        self.assertEqual([sum(map(len, become(house, 0, test).values())) for test in tests_of(form)], [5, 20000])
        self.assertEqual(sure_fields(house, 0), ())
        self.assertEqual(lost_field(house, 0, "a"), ((0, 3, 0), ("~0", "~1", "~2", "~3", ("~4",))))
        more = (house[0] + (LEAF,), house[1] + ((0, 5, (("copy", 0), ("copy", 1)), (("say", "a"),) * 4 + (("say", None),)),))
        for call in (lambda: sure_fields(more, 0), lambda: lost_field(more, 0, "a")):
            with self.assertRaises(TooMany) as caught:
                call()
            self.assertEqual(caught.exception.most, 20000)

    def test_many_together_but_not_from_one_test(self):
        form = tuple((name, WORD) for name in "abcd") + (("p", ("pick", 4)),)
        plain = all_copied(form)
        sources = [(1, 3, 2, "u"), ("v", 2, 1, 0), (3, "x", 2, 1), (0, "y", 3, 2), ("z", 2, 0, 3)]
        turns = [tuple(("say", item) if isinstance(item, str) else ("copy", item) for item in row) + (("copy", 4),) for row in sources]
        house = ((form,) * 6, tuple((0, spot + 1, plain, turn) for spot, turn in enumerate(turns)))
        many = sum(map(len, become(house, 0, tuple("abcd") + (3,)).values()))
        self.assertTrue(5000 < many < 20000 < 4 * many)
        self.assertEqual(sure_fields(house, 0), ("p",))
        self.assertIsNone(lost_field(house, 0, "p"))
        self.assertEqual(lost_field(house, 0, "c")[0], (0, 2, 0))

    def test_500(self):
        self.assertEqual([sure_fields(JUST_HOUSE, 0), lost_field(JUST_HOUSE, 0, "p")], [(), ((0, 1, 0), (1,))])
        for call in (lambda: sure_fields(MORE_HOUSE, 0), lambda: lost_field(MORE_HOUSE, 0, "p"),
                     lambda: lost_field(MORE_HOUSE, 0, "none")):
            with self.assertRaises(TooMany) as caught:
                call()
            self.assertEqual(caught.exception.most, 500)

    def test_made_good(self):
        for seed in range(40):
            chance = chance_of(seed)
            house = good_house(chance)
            if max(map(tests_many, house[0])) <= 60:
                spot = chance.randrange(len(house[0]))
                self.assertEqual(sure_fields(house, spot), told_sure(house, spot))
        house = alike_house(FORK[0][0], SIX_NINE, [FORK[1][0][2], all_copied(FORK[0][0])] * 5)
        self.assertEqual(sure_fields(house, 3), ("b", "c"))


if __name__ == "__main__":
    unittest.main()
