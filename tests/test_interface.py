"""The interface: each name stands in its file, defined there, with its arguments, and all can be passed by position."""

import importlib
import inspect
import unittest

FUNCTIONS = {
    "forms": "is_integer(thing) is_name(thing) is_base(thing) is_kind(thing) is_form(thing) is_value(kind, thing) "
             "is_worth(form, thing) is_expression(form, kind, thing) is_turn(form, other, thing) is_house(thing) "
             "is_way(house, thing)",
    "worths": "least_worth(form) worth_at(form, place) with_value(form, worth, name, value) "
              "part_worth(form, worth, names) is_ahead(form, one, other) is_finite_form(form) "
              "sorted_worths(form, worths) all_worths(form) field_names(form) worths_many(form) place_of(form, worth) "
              "field_of(form, name) value_in(form, worth, name) part_form(form, names) beside(form, other) "
              "renamed_form(form, names)",
    "texts": "show_value(kind, value) show_expression(form, kind, expression) show_form(form) show_worth(form, worth) "
             "show_turn(form, other, turn) show_way(way) show_house(house)",
    "reader": "read_value(kind, text) read_way(house, text) read_form(text) read_worth(form, text) "
              "read_turn(form, other, text) read_house(text)",
    "expressions": "worked(expression, worth) parts_many(expression) deep(expression) reads(expression) "
                   "put_in(expression, turn)",
    "turns": "turned(turn, worth) plain_turn(form) behind(turn, later) turn_parts(turn)",
    "probes": "tests_many(form) tests_of(form) parting_test(form, one, other) same_turns(form, one, other) "
              "matters(form, turn)",
    "shapes": "is_plain(form, turn) is_settled(form, turn) change_places(form, one, other) "
              "comes_back(form, there, back) kept_fields(form, turn)",
    "houses": "neighbours(house, spot) road_between(house, one, other) step_turn(house, one, other) "
              "hangs_together(house, lot) without_roads(house, lot) part_of(house, spots) renumbered(house, order)",
    "ways": "led(house, way, worth) steps_of(house, way, worth) simple_ways(house, spot) rings_of(house) "
            "gone_of(house, way) return_of(way) turn_of(house, way) parting_worth(house, one, other) "
            "same_ways(house, one, other)",
    "returns": "returned(house, way, worth) is_lossless(house, way) change_returns(house, way, other) "
               "unlike_return(house, way, other)",
    "faults": "first_fault(house) faults_of(house) is_fault(house, thing) is_good(house)",
    "parted": "is_parted(house, thing) parted_by(house, fault) parted_ways(house)",
    "outcomes": "gone_lots(house, spot) outcomes(house, spot, worth) hangs_on_gone(house, spot, worth) is_good_by_all(house)",
    "homes": "passes(house, spot, worth, road) homes_of(house, spot, worth)",
    "elements": "element_of(house, spot, worth) lost(house, element, road) home_worth(house, element, spot) "
                "is_element(house, thing)",
    "numbers": "is_whole(house, thing) whole_of(house)",
    "hubs": "is_hub(house, thing) hub_of(house) hub_size(house)",
    "rings": "least_rings(house) still_rings(house) is_still(house, ring) round_of(house, ring)",
    "shortcuts": "house_with(house, road) road_by(house, way) may_add(house, road) agrees(house, road, way)",
    "goodlots": "pieces_of(house, lot) greatest_good(house) least_bad(house) house_of(house, piece) fewest_cuts(house) "
                "is_good_lot(house, lot)",
    "fates": "become(house, spot, worth) sure_fields(house, spot) lost_field(house, spot, name)",
    "goneback": "gone_back(house, spot, worth, lot) gone_to(house, spot, worth, lot, last) "
                "merging_lots(house, spot, one, other)",
    "pasts": "pasts_of(house, spot, worth) greatest_past(house, spot, worth) surely_not_gone(house, spot, worth) "
             "first_worth(house, spot, worth, lot, first)",
    "joining": "joined(house, spot, other, its_spot) spots_joined(house, spot, other, its_spot) "
               "join_fault(house, spot, other, its_spot)",
    "charters": "is_charter(form, thing) lot_of(form, charter, turn) breaking_way(house, spot, charter) "
                "greatest_charters(form, turns)",
    "newforms": "with_form(house, spot, form, there, back) looking_form(house, spot, turn) "
                "form_fault(house, spot, form, there, back) clash(form, one, other)",
    "deeds": "is_deed(house, thing) keeps_order(house, deed) unlike_deed(house, deed) deed_by(house, deed, way)",
    "families": "is_family(house, thing) are_free(house, turns, other) unlike_road(house, turns) family_by(house, deed) "
                "maps_of(house, deed)",
    "rows": "is_row(house, families, thing) same_rows(house, families, row, other) row_led(house, families, row, worth) "
            "moved_ahead(row)",
    "copies": "could_have_been(house, spot, copies) least_tellers(house, spot, lots) told_apart(house, spot, lots)",
    "mends": "places_of(house) least_mends(house, places) made_plain(house, places) is_mend(house, places)",
    "fields": "in_order(house, spot, order) widened(house, name, kind)",
}

CLASSES = {
    ("carrier", "Carrier"): "__init__(self, house) __eq__(self, other) put(self, name, spot, worth) go(self, name, spot) "
                            "fork(self, name, fresh) drop(self, name) spot_of(self, name) worth_of(self, name) "
                            "way_of(self, name) gone_of(self, name) names_now(self) deeds_done(self) undo(self) "
                            "copied(self)",
    ("book", "Book"): "__init__(self, house) add_form(self, spot, form, there, back) add_road(self, one, other, there, back) "
                      "put_road(self, index, there, back) drop_road(self, index) drop_form(self, spot) promise(self, thing) "
                      "undo(self) withdraw(self, index) house_now(self) promises(self) twin(self)",
    ("desk", "Desk"): "__init__(self, text) execute(self, line) book(self)",
}


def calls_of(listed):
    return listed.replace(") ", ")|").split("|")


class Interface(unittest.TestCase):
    def test_functions(self):
        for file, listed in FUNCTIONS.items():
            module = importlib.import_module("wherebeen." + file)
            for call in calls_of(listed):
                name = call.partition("(")[0]
                function = getattr(module, name)
                self.assertTrue(inspect.isfunction(function), call)
                self.assertEqual(function.__module__, module.__name__, call)
                self.assertEqual(name + str(inspect.signature(function)), call)

    def test_classes(self):
        for (file, name), listed in CLASSES.items():
            module = importlib.import_module("wherebeen." + file)
            thing = getattr(module, name)
            self.assertEqual(thing.__module__, module.__name__)
            for call in calls_of(listed):
                method = call.partition("(")[0]
                self.assertEqual(method + str(inspect.signature(vars(thing)[method])), call)


if __name__ == "__main__":
    unittest.main()
