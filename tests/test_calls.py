"""[3] No function changes its arguments; what is returned is new; equal arguments give equal results."""

import copy
import importlib
import unittest

WORD, TWO = ("word",), ("pick", 2)
FORM = (("name", WORD), ("tags", ("row", WORD)), ("mark", ("maybe", TWO)))
SMALL = (("mark", ("maybe", TWO)), ("side", TWO))
WORTH = ("x", ("a", "b"), (1,))
THERE = (("some", ("is", 1)), ("else", ("copy", 2), ("is", 1)))
BACK = (("say", "b"), ("say", ("c", "d")), ("some", ("copy", 1)))
HOUSE = ((FORM, SMALL, FORM), ((0, 1, THERE, BACK), (1, 2, BACK, THERE)))
EXPRESSION = ("else", ("first", 1), ("say", "n"))
TURN = (("copy", 0), ("rowof", ("first", 1)), ("say", None))
BACK_SAID = (("copy", 0), ("copy", 1), ("say", (1,)))
COPY = tuple(("copy", at) for at in range(3))
RING = ((FORM,) * 3, ((0, 1, COPY, COPY), (0, 2, COPY, COPY), (1, 2, COPY, COPY)))
CUT = COPY[:2] + (("say", None),)
GOOD = ((FORM,) * 3, ((0, 1, CUT, CUT), (0, 2, TURN, TURN), (1, 2, CUT, CUT)))
BAD = ((FORM,) * 3, ((0, 1, COPY, BACK_SAID), (0, 2, CUT, CUT), (1, 2, COPY, BACK_SAID)))
FAULT = ("road", 0, 0, ("", (), None))
FLAT, ZERO = (("copy", 0), ("copy", 1)), (("say", None), ("copy", 1))
SMALLS = ((SMALL,) * 3, ((0, 1, ZERO, ZERO), (1, 2, FLAT, FLAT)))
WHOLE = (8, ((0, 1, 2, 3, 4, 5), (0, 1, 6, 7), [0]), ((0,), (1,)))
ONES = (("say", (1,)), ("copy", 1))
CUTS = ((FORM,) * 3, ((0, 1, CUT, CUT), (0, 2, TURN, TURN)))
FEW = (((("m", ("maybe", TWO)),),) * 3, ((0, 1, (("say", None),), (("say", None),)), (0, 2, (("copy", 0),), (("copy", 0),))))
ROW = (0, (("go", 1), ("do", 0), ("go", 2), ("go", 0), ("do", 0), ("go", 1)))
SMALL_RING = ((SMALL,) * 3, ((0, 1, ZERO, ZERO), (0, 2, ZERO, FLAT), (1, 2, FLAT, FLAT)))

CALLS = {
    "forms": [("is_integer", [1]), ("is_name", [["a"]]), ("is_base", [["word"]]), ("is_kind", [["word"]]),
              ("is_form", [list(FORM)]), ("is_value", [("row", WORD), ["a"]]), ("is_worth", [FORM, list(WORTH)]),
              ("is_expression", [FORM, WORD, list(EXPRESSION)]), ("is_turn", [FORM, FORM, list(TURN)]),
              ("is_house", [list(HOUSE)]), ("is_house", [HOUSE]), ("is_way", [HOUSE, [0, 1]]), ("is_way", [HOUSE, (0, 1)])],
    "worths": [("least_worth", [FORM]), ("worth_at", [SMALL, 3]), ("with_value", [FORM, WORTH, "tags", ()]),
               ("part_worth", [FORM, WORTH, ("tags",)]), ("is_ahead", [FORM, WORTH, WORTH]), ("is_finite_form", [FORM]),
               ("sorted_worths", [SMALL, [((0,), 1), (None, 0), ((0,), 1)]]), ("all_worths", [SMALL]),
               ("field_names", [FORM]), ("worths_many", [SMALL]), ("worths_many", [FORM]), ("place_of", [SMALL, (None, 1)]),
               ("field_of", [FORM, "mark"]), ("value_in", [FORM, WORTH, "mark"]), ("part_form", [FORM, ("mark", "name")]),
               ("beside", [FORM, (("z", WORD),)]), ("renamed_form", [SMALL, {"side": "a", "mark": "b"}])],
    "texts": [("show_value", [("row", WORD), ("a",)]), ("show_expression", [FORM, WORD, EXPRESSION]), ("show_form", [FORM]),
              ("show_worth", [FORM, WORTH]), ("show_turn", [FORM, FORM, TURN]), ("show_way", [(0, 1)]),
              ("show_house", [HOUSE])],
    "reader": [("read_value", [("row", TWO), "[ 1 ]"]), ("read_way", [HOUSE, "0 1"]), ("read_form", ["field a word"]),
               ("read_worth", [SMALL, "side 1\nmark -"]), ("read_turn", [FORM, (("z", WORD),), "z copy name"]),
               ("read_house", ["form\nfield a word"])],
    "expressions": [("worked", [EXPRESSION, WORTH]), ("parts_many", [EXPRESSION]), ("deep", [EXPRESSION]),
                    ("reads", [EXPRESSION]), ("put_in", [EXPRESSION, TURN])],
    "turns": [("turned", [TURN, WORTH]), ("plain_turn", [FORM]), ("behind", [TURN, TURN]), ("turn_parts", [TURN])],
    "probes": [("tests_many", [FORM]), ("tests_of", [FORM]), ("parting_test", [FORM, TURN, BACK_SAID]),
               ("same_turns", [FORM, TURN, BACK_SAID]), ("matters", [FORM, TURN])],
    "shapes": [("is_plain", [FORM, TURN]), ("is_settled", [FORM, TURN]), ("change_places", [FORM, TURN, BACK_SAID]),
               ("comes_back", [FORM, THERE, BACK]), ("kept_fields", [FORM, TURN])],
    "houses": [("neighbours", [HOUSE, 1]), ("road_between", [HOUSE, 2, 1]), ("road_between", [HOUSE, 2, 0]),
               ("step_turn", [HOUSE, 1, 0]), ("hangs_together", [HOUSE, (0, 1)]), ("without_roads", [HOUSE, ()]),
               ("part_of", [HOUSE, (1, 2)]), ("renumbered", [HOUSE, (2, 0, 1)])],
    "ways": [("led", [HOUSE, (0, 1), WORTH]), ("steps_of", [HOUSE, (0, 1, 2), WORTH]), ("simple_ways", [HOUSE, 0]),
             ("rings_of", [HOUSE]), ("rings_of", [RING]), ("gone_of", [HOUSE, (2, 1, 0)]), ("return_of", [(0, 1)]),
             ("turn_of", [HOUSE, (0, 1, 0)]), ("parting_worth", [HOUSE, (0,), (0, 1, 0)]),
             ("same_ways", [HOUSE, (0,), (0, 1, 0)])],
    "returns": [("returned", [HOUSE, (0, 1, 2), WORTH]), ("is_lossless", [HOUSE, (0, 1)]),
                ("change_returns", [RING, (0, 1), (0, 2)]), ("change_returns", [BAD, (0, 1), (0, 2)]),
                ("unlike_return", [BAD, (0, 1), (0, 2)]), ("unlike_return", [RING, (0, 1), (0, 1, 2)])],
    "faults": [("first_fault", [BAD]), ("first_fault", [GOOD]), ("faults_of", [BAD]), ("faults_of", [GOOD]),
               ("is_fault", [BAD, FAULT]), ("is_fault", [BAD, list(FAULT)]), ("is_fault", [GOOD, {"a": []}]),
               ("is_good", [GOOD]), ("is_good", [BAD])],
    "parted": [("is_parted", [BAD, [WORTH, (0, 1), [0, 1]]]), ("is_parted", [BAD, (WORTH, (0, 1), (0, 1, 0, 1))]),
               ("parted_by", [BAD, FAULT]), ("parted_ways", [BAD]), ("parted_ways", [GOOD])],
    "outcomes": [("gone_lots", [RING, 1]), ("outcomes", [BAD, 0, WORTH]), ("outcomes", [GOOD, 2, WORTH]),
                 ("hangs_on_gone", [BAD, 0, WORTH]), ("hangs_on_gone", [GOOD, 0, WORTH]), ("is_good_by_all", [GOOD]),
                 ("is_good_by_all", [BAD])],
    "homes": [("passes", [GOOD, 0, WORTH, 0]), ("homes_of", [GOOD, 1, WORTH]), ("homes_of", [RING, 2, WORTH])],
    "elements": [("element_of", [GOOD, 2, WORTH]), ("lost", [GOOD, (0, WORTH, ()), 2]),
                 ("home_worth", [GOOD, (0, ("x", (), None), ()), 1]), ("home_worth", [GOOD, (0, WORTH, ()), 1]),
                 ("is_element", [GOOD, [0, WORTH, [2]]]), ("is_element", [GOOD, (0, WORTH, (2,))])],
    "numbers": [("whole_of", [SMALLS]), ("is_whole", [SMALLS, WHOLE]), ("is_whole", [SMALLS, {1: []}])],
    "hubs": [("hub_of", [SMALLS]), ("hub_size", [SMALLS]), ("is_hub", [SMALLS, WHOLE]), ("is_hub", [SMALLS, [WHOLE]])],
    "rings": [("least_rings", [RING]), ("still_rings", [RING]), ("still_rings", [SMALL_RING]),
              ("is_still", [RING, (1, 0, 2, 1)]), ("round_of", [SMALL_RING, (0, 1, 2, 0)])],
    "shortcuts": [("house_with", [SMALLS, (0, 2, ZERO, FLAT)]), ("road_by", [SMALLS, (0, 1, 2)]),
                  ("may_add", [SMALLS, (0, 2, ZERO, FLAT)]), ("may_add", [SMALLS, (0, 2, ZERO, ZERO)]),
                  ("agrees", [SMALLS, (0, 2, ZERO, FLAT), (2, 1, 0)])],
    "goodlots": [("pieces_of", [BAD, (1,)]), ("house_of", [BAD, ((0, 2), (1,))]), ("is_good_lot", [BAD, (1,)]),
                 ("greatest_good", [BAD]), ("least_bad", [BAD]), ("fewest_cuts", [BAD])],
    "fates": [("become", [BAD, 0, WORTH]), ("sure_fields", [BAD, 0]), ("lost_field", [BAD, 0, "name"]),
              ("lost_field", [GOOD, 0, "mark"]), ("lost_field", [GOOD, 0, "name"])],
    "goneback": [("gone_back", [GOOD, 0, WORTH, (0, 1)]), ("gone_to", [GOOD, 0, WORTH, (0, 2), 2]),
                 ("merging_lots", [GOOD, 0, WORTH, ("x", ("a",), None)]), ("merging_lots", [GOOD, 0, WORTH, WORTH])],
    "pasts": [("pasts_of", [GOOD, 1, ("x", (), None)]), ("greatest_past", [GOOD, 1, ("x", (), None)]),
              ("surely_not_gone", [GOOD, 1, WORTH]), ("first_worth", [GOOD, 1, ("x", (), None), (0, 1), 2])],
    "joining": [("joined", [SMALLS, 1, SMALL_RING, 2]), ("spots_joined", [GOOD, 1, RING, 0]),
                ("join_fault", [GOOD, 0, GOOD, 2]), ("join_fault", [SMALLS, 0, ((SMALL,) * 2, ((0, 1, ONES, ONES),)), 1])],
    "charters": [("is_charter", [FORM, (CUT, TURN)]), ("is_charter", [FORM, [CUT, list(TURN)]]),
                 ("lot_of", [FORM, (CUT, TURN), TURN]), ("lot_of", [FORM, (CUT,), BACK_SAID]),
                 ("breaking_way", [GOOD, 0, (TURN,)]), ("breaking_way", [GOOD, 0, (TURN, CUT)]),
                 ("greatest_charters", [FORM, (CUT, BACK_SAID, TURN)])],
    "newforms": [("with_form", [GOOD, 0, SMALL, THERE, BACK]), ("looking_form", [GOOD, 1, TURN]),
                 ("form_fault", [GOOD, 0, FORM, COPY, BACK_SAID]), ("form_fault", [GOOD, 0, FORM, CUT, CUT]),
                 ("form_fault", [GOOD, 1, FORM, BACK_SAID, BACK_SAID]), ("clash", [FORM, CUT, BACK_SAID]),
                 ("clash", [FORM, CUT, TURN])],
    "deeds": [("is_deed", [GOOD, (0, TURN)]), ("is_deed", [GOOD, [0, TURN]]), ("is_deed", [GOOD, {0: [TURN]}]),
              ("keeps_order", [GOOD, (0, TURN)]), ("unlike_deed", [GOOD, (0, BACK_SAID)]), ("unlike_deed", [GOOD, (0, CUT)]),
              ("deed_by", [GOOD, (0, BACK_SAID), (2, 1, 0)])],
    "families": [("is_family", [GOOD, (CUT,) * 3]), ("is_family", [GOOD, [list(CUT), CUT, {}]]), ("unlike_road", [GOOD, (CUT,) * 3]),
                 ("unlike_road", [BAD, (TURN,) * 3]), ("family_by", [CUTS, (0, TURN)]), ("maps_of", [FEW, (2, FEW[1][0][2])]),
                 ("maps_of", [FEW, (0, (("say", (0,)),))]), ("are_free", [GOOD, (CUT,) * 3, (TURN,) * 3])],
    "rows": [("is_row", [GOOD, ((CUT,) * 3,), ROW]), ("is_row", [GOOD, ((CUT,) * 3,), [0, [["do", 0]]]]),
             ("row_led", [GOOD, ((CUT,) * 3,), ROW, WORTH]), ("moved_ahead", [ROW]),
             ("same_rows", [GOOD, ((CUT,) * 3,), ROW, (0, (("go", 2), ("go", 1)))])],
    "copies": [("could_have_been", [SMALLS, 0, (((0,), (None, 1)), ((0, 1), (None, 1)))]), ("told_apart", [SMALLS, 0, ((0,), ())]),
               ("told_apart", [SMALLS, 0, ((0,), (0, 1))]), ("least_tellers", [SMALLS, 0, ((0,), (), ())])],
    "mends": [("places_of", [BAD]), ("made_plain", [BAD, ((0, 1, 2), (2, 0, 1))]), ("is_mend", [BAD, ((0, 1, 2),)]),
              ("least_mends", [BAD, ((0, 0, 2), (0, 1, 2), (1, 0, 2), (2, 1, 2))]), ("least_mends", [GOOD, ()])],
    "fields": [("in_order", [HOUSE, 0, (2, 0, 1)]), ("widened", [HOUSE, "z", ("row", WORD)])],
}


def spoiled(thing):
    """Changes each list and each dict in a thing."""
    if isinstance(thing, (list, tuple)):
        for item in thing:
            spoiled(item)
    if isinstance(thing, dict):
        for item in thing.values():
            spoiled(item)
        thing["spoiled"] = True
    if isinstance(thing, list):
        thing.append("spoiled")


class Calls(unittest.TestCase):
    def test_all(self):
        for file, calls in CALLS.items():
            module = importlib.import_module("wherebeen." + file)
            for name, given in calls:
                before = copy.deepcopy(given)
                answer = getattr(module, name)(*given)
                self.assertEqual(given, before, name)
                kept = copy.deepcopy(answer)
                again = getattr(module, name)(*before)
                self.assertEqual((again, repr(again)), (kept, repr(kept)), name)
                spoiled(answer)
                self.assertEqual(getattr(module, name)(*given), kept, name)
                self.assertEqual(given, before, name)

    def test_carrier(self):
        carrier = importlib.import_module("wherebeen.carrier").Carrier(HOUSE)
        carrier.put("a", 0, WORTH)
        carrier.go("a", 1)
        for name, given in (("spot_of", ["a"]), ("worth_of", ["a"]), ("way_of", ["a"]), ("gone_of", ["a"]), ("names_now", []),
                            ("deeds_done", []), ("copied", [])):
            answer = getattr(carrier, name)(*given)
            kept = copy.deepcopy(answer)
            spoiled(answer)
            self.assertEqual(getattr(carrier, name)(*given), kept, name)

    def check_told(self, thing, calls):
        """What an object tells may be changed, and is told again."""
        for name, given in calls:
            answer = getattr(thing, name)(*given)
            kept = copy.deepcopy(answer)
            spoiled(answer)
            self.assertEqual(getattr(thing, name)(*given), kept, name)

    def test_book_and_desk(self):
        book = importlib.import_module("wherebeen.book").Book(GOOD)
        book.promise(("sure", 0, "name"))
        self.check_told(book, (("house_now", []), ("promises", [])))
        desk = importlib.import_module("wherebeen.desk").Desk(importlib.import_module("wherebeen.texts").show_house(GOOD))
        self.assertEqual(desk.execute("sure 0 name"), ["done"])
        self.check_told(desk, [("execute", [line]) for line in ("house", "promises", 'lead 0 1 with "x" [ "a" ] some 1',
                                                                "same 0 and 0 1 0", "sure 0 name")])


if __name__ == "__main__":
    unittest.main()
