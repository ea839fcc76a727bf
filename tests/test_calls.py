"""[3] No function changes its arguments; what is returned is new; equal arguments give equal results."""

import copy
import importlib
import unittest

WORD, TWO = ("word",), ("pick", 2)
FORM = (("name", WORD), ("tags", ("row", WORD)), ("mark", ("maybe", TWO)))
SMALL = (("mark", ("maybe", TWO)), ("side", TWO))
WORTH = ("x", ("a", "b"), (1,))
THERE = (("some", ("is", 1)), ("else", ("copy", 2), ("is", 1)))
BACK = (("say", "b"), ("say", ("c", "d")), ("some", ("copy", 1)))
HOUSE = ((FORM, SMALL, FORM), ((0, 1, THERE, BACK), (1, 2, BACK, THERE)))
EXPRESSION = ("else", ("first", 1), ("say", "n"))
TURN = (("copy", 0), ("rowof", ("first", 1)), ("say", None))

CALLS = {
    "forms": [("is_integer", [1]), ("is_name", [["a"]]), ("is_base", [["word"]]), ("is_kind", [["word"]]),
              ("is_form", [list(FORM)]), ("is_value", [("row", WORD), ["a"]]), ("is_worth", [FORM, list(WORTH)]),
              ("is_expression", [FORM, WORD, list(EXPRESSION)]), ("is_turn", [FORM, FORM, list(TURN)]),
              ("is_house", [list(HOUSE)]), ("is_house", [HOUSE]), ("is_way", [HOUSE, [0, 1]]), ("is_way", [HOUSE, (0, 1)])],
    "worths": [("least_worth", [FORM]), ("worth_at", [SMALL, 3]), ("with_value", [FORM, WORTH, "tags", ()]),
               ("part_worth", [FORM, WORTH, ("tags",)]), ("is_ahead", [FORM, WORTH, WORTH]), ("is_finite_form", [FORM]),
               ("sorted_worths", [SMALL, [((0,), 1), (None, 0), ((0,), 1)]]), ("all_worths", [SMALL]),
               ("field_names", [FORM]), ("worths_many", [SMALL]), ("worths_many", [FORM]), ("place_of", [SMALL, (None, 1)]),
               ("field_of", [FORM, "mark"]), ("value_in", [FORM, WORTH, "mark"]), ("part_form", [FORM, ("mark", "name")]),
               ("beside", [FORM, (("z", WORD),)]), ("renamed_form", [SMALL, {"side": "a", "mark": "b"}])],
    "texts": [("show_value", [("row", WORD), ("a",)]), ("show_expression", [FORM, WORD, EXPRESSION]), ("show_form", [FORM]),
              ("show_worth", [FORM, WORTH]), ("show_turn", [FORM, FORM, TURN]), ("show_way", [(0, 1)]),
              ("show_house", [HOUSE])],
    "reader": [("read_value", [("row", TWO), "[ 1 ]"]), ("read_way", [HOUSE, "0 1"]), ("read_form", ["field a word"]),
               ("read_worth", [SMALL, "side 1\nmark -"]), ("read_turn", [FORM, (("z", WORD),), "z copy name"]),
               ("read_house", ["form\nfield a word"])],
    "expressions": [("worked", [EXPRESSION, WORTH]), ("parts_many", [EXPRESSION]), ("deep", [EXPRESSION]),
                    ("reads", [EXPRESSION]), ("put_in", [EXPRESSION, TURN])],
}


def spoiled(thing):
    """Changes each list and each dict in a thing."""
    if isinstance(thing, (list, tuple)):
        for item in thing:
            spoiled(item)
    if isinstance(thing, dict):
        for item in thing.values():
            spoiled(item)
        thing["spoiled"] = True
    if isinstance(thing, list):
        thing.append("spoiled")


class Calls(unittest.TestCase):
    def test_all(self):
        for file, calls in CALLS.items():
            module = importlib.import_module("wherebeen." + file)
            for name, given in calls:
                before = copy.deepcopy(given)
                answer = getattr(module, name)(*given)
                self.assertEqual(given, before, name)
                kept = copy.deepcopy(answer)
                again = getattr(module, name)(*before)
                self.assertEqual((again, repr(again)), (kept, repr(kept)), name)
                spoiled(answer)
                self.assertEqual(getattr(module, name)(*given), kept, name)
                self.assertEqual(given, before, name)


if __name__ == "__main__":
    unittest.main()
