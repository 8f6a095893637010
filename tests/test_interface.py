"""The names of the interface and the names of their parameters."""

import importlib
import inspect
import pathlib
import unittest

PACKAGE = pathlib.Path(__file__).resolve().parent.parent / "selfcrossed"
FUNCTIONS = {
    "rows": {
        "is_row": "value", "letters": "row", "places": "row letter", "begun": "row place", "backwards": "row",
        "named": "row letters", "plain": "row", "is_same": "one other", "ways_to_itself": "row", "count_rows": "number",
        "nth_row": "number index", "lines_of": "number",
    },
    "links": {
        "are_linked": "row letter other", "links": "row", "bunches": "row", "linked_with": "row letter",
        "between": "row letter", "put_in": "row place other", "hang_alike": "one other", "alike_rows": "row",
        "table": "row", "rank": "row",
    },
    "flat": {
        "regions": "row sides", "handles": "row sides", "is_flat": "row", "flat_sides": "row", "flat_by_links": "row",
        "why_not": "row",
    },
    "handles": {
        "least_handles": "row", "greatest_handles": "row", "handles_spread": "row", "first_sides": "row number",
        "one_region": "row", "two_shades": "row sides",
    },
    "drawings": {
        "begun_at": "drawing place", "walked_back": "drawing", "mirror": "drawing", "turned_out": "drawing region",
        "plain_drawing": "drawing", "are_same": "one other", "is_own_mirror": "drawing", "drawings_of": "row",
        "count_drawings": "number",
    },
    "numbers": {
        "region_numbers": "drawing", "letter_numbers": "drawing", "signs": "drawing edge", "twice_mean": "drawing edge",
        "turns": "drawing", "same_way": "drawing", "opposite_way": "drawing", "three_ways": "drawing",
        "on_a_ball": "drawing", "area": "drawing sizes", "rings": "drawing", "most_turns": "row",
        "least_same_way": "row", "turns_spread": "row", "outsides_with": "drawing number", "standard": "number",
    },
    "moves": {
        "is_move": "drawing value", "done": "drawing move", "changes_of": "drawing move", "outs": "drawing",
        "ins": "drawing", "led": "drawing moves", "back": "drawing move", "loosened": "drawing", "by_threes": "drawing",
        "fewest_moves": "one other number", "without_loops": "one other number", "least_moves_of": "one other",
    },
    "turnings": {
        "count_rounds": "row turnings", "rounds": "row turnings", "rounds_by_table": "row turnings",
        "tour": "row turnings", "tours": "row", "count_tours": "row", "tours_along": "row", "one_web": "one other",
        "turnings_between": "one other", "all_against": "row", "all_along": "row",
    },
    "spreads": {
        "spread_along": "row", "spread_in_all": "row", "value_at": "polynomial number",
        "turned_at": "row letter other", "without": "row letters", "greatest_rounds": "row", "first_greatest": "row",
        "chance_of_one": "row",
    },
    "parts": {
        "fewest_out": "row", "flat_parts": "row", "count_flat_parts": "row", "handles_without": "row", "exchanges": "row",
        "ways_in": "drawing", "crossed_once": "row",
    },
    "lines": {
        "lines_handles": "lines sides", "least_lines_handles": "lines", "are_flat": "lines", "flat_lines_sides": "lines",
        "shared": "lines first second", "are_even": "lines", "joined": "lines letter", "parted": "lines letter",
        "plain_lines": "lines", "are_same_lines": "one other",
    },
    "dims": {
        "is_dim": "value", "count_fillings": "dim", "fillings": "dim", "nth_filling": "dim index", "flat_fillings": "dim",
        "flat_word": "dim", "handles_of": "dim", "sure_links": "dim", "never_links": "dim", "turns_of": "dim",
        "sure_pairs": "dim", "looks_needed": "dim", "best_looks": "dim", "hidden": "row places",
        "fillings_like": "dim row",
    },
    "checker": {"accepts": "claim paper"},
    "certificates": {
        "certify_flat": "row", "certify_handles": "row", "certify_same": "one other", "certify_rounds": "row turnings",
        "certify_web": "one other", "certify_turns": "drawing", "certify_same_way": "drawing",
        "certify_opposite_way": "drawing", "certify_three_ways": "drawing", "certify_apart": "one other",
        "certify_least": "one other", "certify_led": "drawing moves", "certify_out": "row", "certify_lines": "lines",
    },
}
CLASSES = {
    "drawings": {
        "Drawing": {
            "parameters": "row sides outside", "methods": {"read": "text"},
            "properties": "row sides outside regions size text",
        },
    },
    "benches": {
        "Bench": {
            "parameters": "drawing",
            "methods": {
                "move": "self move", "play": "self moves", "loosen": "self", "turn_out": "self region", "undo": "self",
                "trial": "self", "tried": "self action",
            },
            "properties": "drawing first deeds changes turns same_way opposite_way three_ways",
        },
    },
    "shelves": {
        "Shelf": {
            "parameters": "",
            "methods": {
                "put": "self name thing", "thing": "self name", "drop": "self name", "claim": "self claim",
                "lift": "self index", "undo": "self", "trial": "self", "tried": "self action",
            },
            "properties": "names claims changes",
        },
    },
    "console": {"Console": {"parameters": "", "methods": {"run": "self command"}, "properties": "shelf"}},
}


def parameters(function):
    return " ".join(inspect.signature(function).parameters)


class Interface(unittest.TestCase):
    def test_functions(self):
        for name, told in FUNCTIONS.items():
            module = importlib.import_module(f"selfcrossed.{name}")
            for function, names in told.items():
                with self.subTest(function):
                    self.assertEqual(parameters(getattr(module, function)), names)
                    self.assertEqual(getattr(module, function).__module__, f"selfcrossed.{name}")
                    self.assertIn(f"\ndef {function}(", (PACKAGE / f"{name}.py").read_text())

    def test_parameters_go_by_position_and_by_name(self):
        for name, told in FUNCTIONS.items():
            module = importlib.import_module(f"selfcrossed.{name}")
            for function in told:
                for parameter in inspect.signature(getattr(module, function)).parameters.values():
                    self.assertEqual(parameter.kind, parameter.POSITIONAL_OR_KEYWORD)
                    self.assertIs(parameter.default, parameter.empty)

    def test_classes(self):
        for name, classes in CLASSES.items():
            module = importlib.import_module(f"selfcrossed.{name}")
            for kind, told in classes.items():
                with self.subTest(kind):
                    found = getattr(module, kind)
                    self.assertEqual(found.__module__, f"selfcrossed.{name}")
                    self.assertEqual(parameters(found), told["parameters"])
                    for method, names in told["methods"].items():
                        self.assertIn(method, vars(found))
                        self.assertEqual(parameters(getattr(found, method)), names)
                    for each in told["properties"].split():
                        self.assertIsInstance(vars(found)[each], property)
                        self.assertIsNone(vars(found)[each].fset)
