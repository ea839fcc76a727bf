"""[23] Leading documents; [24] deeds, undoing, copies, and equality."""

import unittest

from samples import any_house, any_worth, chance_of, things
from test_ways import CARDS, COPY, PICK, ZERO
from wherebeen.carrier import Carrier
from wherebeen.errors import NoCopy, NoRoad, Nothing, Taken, WayError, Wrong
from wherebeen.houses import neighbours
from wherebeen.ways import gone_of, led

WORTH = ("x", ("a", "b"))


def state(carrier):
    """All that a carrier tells."""
    names = carrier.names_now()
    return ([(name, carrier.spot_of(name), carrier.worth_of(name), carrier.way_of(name), carrier.gone_of(name))
             for name in names], carrier.deeds_done())


class Carriers(unittest.TestCase):
    def setUp(self):
        self.carrier = Carrier(CARDS)
        self.carrier.put("d", 0, WORTH)

    def refused(self, error, fields, call, *given):
        before = state(self.carrier)
        with self.assertRaises(error) as caught:
            call(*given)
        kept = vars(caught.exception)
        self.assertEqual(set(kept), set(fields))
        for name, thing in fields.items():
            self.assertIs(kept[name], thing, given)
        self.assertEqual(state(self.carrier), before)


class Leading(Carriers):
    def test_methods_stand_in_the_class(self):
        for name in ("__eq__ put go fork drop spot_of worth_of way_of gone_of names_now deeds_done undo copied".split()):
            self.assertIn(name, vars(Carrier))

    def test_put(self):
        self.assertIsNone(self.carrier.put("a", 2, ("y", None)))
        self.assertEqual(state(self.carrier)[0], [("a", 2, ("y", None), (2,), ()), ("d", 0, WORTH, (0,), ())])

    def test_go(self):
        self.assertIsNone(self.carrier.go("d", 1))
        self.carrier.go("d", 0)
        self.assertEqual(state(self.carrier)[0], [("d", 0, ("x", ("a",)), (0, 1, 0), (0,))])
        self.carrier.go("d", 1)
        self.carrier.go("d", 2)
        self.assertEqual(state(self.carrier)[0], [("d", 2, ("x", None), (0, 1, 0, 1, 2), (0, 1))])

    def test_fork(self):
        self.carrier.go("d", 1)
        self.assertIsNone(self.carrier.fork("d", "e"))
        self.carrier.go("e", 2)
        self.carrier.go("d", 0)
        self.carrier.fork("e", "c")
        self.assertEqual(state(self.carrier)[0], [("c", 2, ("x", None), (0, 1, 2), (0, 1)),
                                                  ("d", 0, ("x", ("a",)), (0, 1, 0), (0,)),
                                                  ("e", 2, ("x", None), (0, 1, 2), (0, 1))])

    def test_drop_and_take_again(self):
        self.carrier.fork("d", "e")
        self.assertIsNone(self.carrier.drop("d"))
        self.assertEqual(self.carrier.names_now(), ["e"])
        self.carrier.put("d", 1, ("z", None))
        self.carrier.drop("e")
        self.carrier.fork("d", "e")
        self.assertEqual([self.carrier.way_of("d"), self.carrier.way_of("e")], [(1,), (1,)])

    def test_names_ascend(self):
        for name in ("z", "aa", "b", "a"):
            self.carrier.fork("d", name)
        self.assertEqual(self.carrier.names_now(), ["a", "aa", "b", "d", "z"])
        self.carrier.names_now().clear()
        self.assertEqual(len(self.carrier.names_now()), 5)
        self.carrier.deeds_done().clear()
        self.assertEqual(len(self.carrier.deeds_done()), 5)


class Errors(Carriers):
    def test_house(self):
        for thing in things() + [(CARDS[0], ()), list(CARDS)]:
            with self.assertRaises(Wrong) as caught:
                Carrier(thing)
            self.assertEqual(caught.exception.place, 0)

    def wrong(self, place, call, *given):
        before = state(self.carrier)
        with self.assertRaises(Wrong) as caught:
            call(*given)
        self.assertEqual(caught.exception.place, place, given)
        self.assertEqual(state(self.carrier), before)

    def test_put_wrong(self):
        put = self.carrier.put
        for thing in things() + [self.carrier]:
            self.wrong(0, put, thing, 0, WORTH)
            self.wrong(0, put, thing, thing, thing)
            self.wrong(1, put, "d", thing, thing)
            self.wrong(1, put, "e", thing, WORTH)
            self.wrong(2, put, "d", 0, thing)
        self.wrong(1, put, "e", 3, WORTH)
        self.wrong(1, put, "e", -1, WORTH)
        self.wrong(1, put, "e", False, WORTH)
        self.wrong(2, put, "e", 1, WORTH)
        self.wrong(2, put, "e", 0, list(WORTH))
        self.wrong(2, put, "e", 0, ("x", ["a", "b"]))

    def test_put_taken(self):
        name = "".join(["d"])
        self.refused(Taken, {"name": name}, self.carrier.put, name, 1, ("y", None))

    def test_no_copy(self):
        carrier = self.carrier
        for name in things() + [carrier, "e", 0, [["d"]], "D", ("d",), {"d": "d"}]:
            fields = {"name": name}
            for call in (carrier.drop, carrier.spot_of, carrier.worth_of, carrier.way_of, carrier.gone_of):
                self.refused(NoCopy, fields, call, name)
            for spot in (1, 7, None, True, []):
                self.refused(NoCopy, fields, carrier.go, name, spot)
            for fresh in ("e", "d"):
                self.refused(NoCopy, fields, carrier.fork, name, fresh)

    def test_no_road(self):
        self.carrier.put("e", 1, ("y", None))
        for spot in things() + [self.carrier, 0, 2, 3, -1, True, "1", [1], 10 ** 39]:
            self.refused(NoRoad, {"one": 0, "other": spot}, self.carrier.go, "d", spot)
        for spot in (1, 3, True, False, None, [0]):
            self.refused(NoRoad, {"one": 1, "other": spot}, self.carrier.go, "e", spot)

    def test_fork(self):
        for thing in things() + [self.carrier]:
            self.wrong(1, self.carrier.fork, "d", thing)
            self.wrong(1, self.carrier.fork, thing, thing)
        fresh = "".join(["d"])
        self.refused(Taken, {"name": fresh}, self.carrier.fork, "d", fresh)

    def test_nothing(self):
        self.assertEqual(self.carrier.undo(), ("put", "d", 0, WORTH))
        self.refused(Nothing, {}, self.carrier.undo)
        with self.assertRaises(Nothing):
            Carrier(CARDS).undo()


class Deeds(Carriers):
    def test_deeds(self):
        carrier = self.carrier
        carrier.fork("d", "e")
        carrier.go("e", 1)
        carrier.drop("d")
        deeds = [("put", "d", 0, WORTH), ("fork", "d", "e"), ("go", "e", 1), ("drop", "d")]
        self.assertEqual(carrier.deeds_done(), deeds)
        self.assertEqual([carrier.undo() for _ in range(4)], deeds[::-1])
        self.assertEqual(state(carrier), ([], []))

    def test_a_name_taken_again(self):
        carrier = self.carrier
        carrier.go("d", 1)
        carrier.drop("d")
        carrier.put("d", 2, ("z", None))
        carrier.go("d", 1)
        carrier.undo()
        self.assertEqual(carrier.way_of("d"), (2,))
        carrier.undo()
        self.assertEqual(carrier.names_now(), [])
        carrier.undo()
        self.assertEqual([carrier.way_of("d"), carrier.worth_of("d")], [(0, 1), ("x", ("a",))])

    def test_undo_of_one_does_not_touch_its_copies(self):
        carrier = self.carrier
        carrier.go("d", 1)
        carrier.fork("d", "e")
        carrier.go("d", 2)
        carrier.undo()
        self.assertEqual([carrier.way_of("d"), carrier.way_of("e")], [(0, 1), (0, 1)])
        carrier.go("e", 0)
        carrier.go("d", 2)
        self.assertEqual([carrier.way_of("d"), carrier.way_of("e")], [(0, 1, 2), (0, 1, 0)])

    def test_copied(self):
        carrier = self.carrier
        carrier.go("d", 1)
        other = carrier.copied()
        self.assertIsInstance(other, Carrier)
        self.assertEqual(state(other), state(carrier))
        other.go("d", 2)
        other.put("e", 0, WORTH)
        self.assertEqual([carrier.way_of("d"), carrier.names_now(), len(carrier.deeds_done())], [(0, 1), ["d"], 2])
        carrier.undo()
        carrier.go("d", 1)
        carrier.go("d", 0)
        self.assertEqual([other.way_of("d"), other.gone_of("d")], [(0, 1, 2), (0, 1)])
        self.assertEqual([deed[0] for deed in [other.undo() for _ in range(4)]], ["put", "go", "go", "put"])
        self.assertEqual(carrier.way_of("d"), (0, 1, 0))


class Equal(Carriers):
    def check(self, other, wanted):
        self.assertIs(self.carrier == other, wanted)
        self.assertIs(other == self.carrier, wanted)
        self.assertIs(self.carrier != other, not wanted)

    def test_other_deeds(self):
        other = Carrier(CARDS)
        self.check(other, False)
        other.put("e", 0, WORTH)
        other.go("e", 1)
        other.undo()
        other.fork("e", "d")
        other.drop("e")
        self.check(other, True)
        self.assertNotEqual(other.deeds_done(), self.carrier.deeds_done())

    def test_same_worths_by_other_ways(self):
        self.carrier.go("d", 1)
        other = self.carrier.copied()
        other.go("d", 0)
        other.go("d", 1)
        self.assertEqual(other.worth_of("d"), self.carrier.worth_of("d"))
        self.check(other, False)
        other.undo()
        other.undo()
        self.check(other, True)

    def test_other_names_worths_and_houses(self):
        for name, worth, wanted in (("d", WORTH, True), ("e", WORTH, False), ("d", ("x", ("a",)), False)):
            other = Carrier(CARDS)
            other.put(name, 0, worth)
            self.check(other, wanted)
        other = self.carrier.copied()
        other.fork("d", "e")
        self.check(other, False)
        houses = [((PICK, PICK), ((0, 1, COPY, turn),)) for turn in (COPY, ZERO, COPY)]
        carriers = [Carrier(house) for house in houses]
        self.assertEqual([carriers[0] == other for other in carriers], [True, False, True])
        carriers[0].put("a", 0, (1,))
        carriers[1].put("a", 0, (1,))
        self.assertNotEqual(carriers[0], carriers[1])

    def test_worths_that_were_lost_on_the_way(self):
        one, other = Carrier(CARDS), Carrier(CARDS)
        one.put("d", 0, ("x", ("a", "b")))
        other.put("d", 0, ("x", ("a", "c")))
        self.assertNotEqual(one, other)
        one.go("d", 1)
        other.go("d", 1)
        self.assertEqual(one, other)

    def test_nothing_else(self):
        for thing in things() + ["d", CARDS, state(self.carrier)]:
            self.check(thing, False)


class LongRows(unittest.TestCase):
    def test_by_chance(self):
        """A model that keeps a whole copy of its documents ahead of each deed."""
        for seed in range(60):
            chance = chance_of(seed)
            house = any_house(chance, deepest=3)
            carrier, documents, kept, others = Carrier(house), {}, [], []
            for _ in range(120):
                self.step(chance, house, carrier, documents, kept)
                self.assertEqual(carrier.names_now(), sorted(documents))
                for name, (way, first) in documents.items():
                    self.assertEqual(carrier.way_of(name), way)
                    self.assertEqual(carrier.worth_of(name), led(house, way, first))
                    self.assertEqual([carrier.spot_of(name), carrier.gone_of(name)], [way[-1], gone_of(house, way)])
                self.assertEqual(carrier.deeds_done(), [deed for deed, _ in kept])
                if chance.random() < 0.05:
                    others.append((carrier.copied(), state(carrier)))
            for other, wanted in others:
                self.assertEqual(state(other), wanted)

    def step(self, chance, house, carrier, documents, kept):
        before, name, fresh = dict(documents), chance.choice("abcd"), chance.choice("abcd")
        deed = chance.choice(["put", "go", "go", "go", "go", "fork", "fork", "drop", "undo", "undo"])
        if deed == "undo":
            if not kept:
                self.assertRaises(Nothing, carrier.undo)
                return
            told, earlier = kept.pop()
            self.assertEqual(carrier.undo(), told)
            documents.clear()
            documents.update(earlier)
            return
        spot = chance.randrange(len(house[0]))
        worth = any_worth(chance, house[0][spot])
        given = {"put": (name, spot, worth), "go": (name, spot), "fork": (name, fresh), "drop": (name,)}[deed]
        known = name in documents
        fine = {"put": not known, "fork": known and fresh not in documents, "drop": known,
                "go": known and spot in neighbours(house, documents[name][0][-1])}[deed]
        if not fine:
            self.assertRaises(WayError, getattr(carrier, deed), *given)
            return
        self.assertIsNone(getattr(carrier, deed)(*given))
        kept.append(((deed,) + given, before))
        if deed == "put":
            documents[name] = ((spot,), worth)
        elif deed == "go":
            documents[name] = (documents[name][0] + (spot,), documents[name][1])
        elif deed == "fork":
            documents[fresh] = documents[name]
        else:
            del documents[name]

    def test_a_very_long_way(self):
        carrier = Carrier(((PICK, PICK), ((0, 1, COPY, ZERO),)))
        carrier.put("a", 0, (1,))
        for step in range(3000):
            carrier.go("a", 1 - step % 2)
        self.assertEqual([len(carrier.way_of("a")), carrier.gone_of("a"), carrier.worth_of("a")], [3001, (0,), (0,)])
        self.assertEqual(carrier.copied(), carrier)
        for _ in range(3000):
            carrier.undo()
        self.assertEqual([carrier.way_of("a"), carrier.worth_of("a")], [(0,), (1,)])


if __name__ == "__main__":
    unittest.main()
