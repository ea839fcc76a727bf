"""The interface: each name stands in its file, defined there, with its arguments, and all can be passed by position."""

import importlib
import inspect
import unittest

FUNCTIONS = {
    "forms": "is_integer(thing) is_name(thing) is_base(thing) is_kind(thing) is_form(thing) is_value(kind, thing) "
             "is_worth(form, thing) is_expression(form, kind, thing) is_turn(form, other, thing) is_house(thing) "
             "is_way(house, thing)",
    "worths": "least_worth(form) worth_at(form, place) with_value(form, worth, name, value) "
              "part_worth(form, worth, names) is_ahead(form, one, other) is_finite_form(form) "
              "sorted_worths(form, worths) all_worths(form) field_names(form) worths_many(form) place_of(form, worth) "
              "field_of(form, name) value_in(form, worth, name) part_form(form, names) beside(form, other) "
              "renamed_form(form, names)",
    "texts": "show_value(kind, value) show_expression(form, kind, expression) show_form(form) show_worth(form, worth) "
             "show_turn(form, other, turn) show_way(way) show_house(house)",
    "reader": "read_value(kind, text) read_way(house, text) read_form(text) read_worth(form, text) "
              "read_turn(form, other, text) read_house(text)",
    "expressions": "worked(expression, worth) parts_many(expression) deep(expression) reads(expression) "
                   "put_in(expression, turn)",
}


class Interface(unittest.TestCase):
    def test_functions(self):
        for file, listed in FUNCTIONS.items():
            module = importlib.import_module("wherebeen." + file)
            for call in listed.replace(") ", ")|").split("|"):
                name = call.partition("(")[0]
                function = getattr(module, name)
                self.assertTrue(inspect.isfunction(function), call)
                self.assertEqual(function.__module__, module.__name__, call)
                self.assertEqual(name + str(inspect.signature(function)), call)


if __name__ == "__main__":
    unittest.main()
