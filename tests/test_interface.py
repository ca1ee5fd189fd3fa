"""The interface: names, arguments, and where each function is defined."""

import importlib
import inspect
import unittest
from pathlib import Path

INTERFACE = {
    "fractions": {
        "is_fraction": "value", "is_surd": "value", "fraction_of": "p q", "surd_of": "part factor square",
        "compare": "surd other", "nearest": "surd digits",
    },
    "lights": {
        "is_light": "value", "is_kind": "value", "is_look": "value", "read_level": "look light",
        "light_of": "numbers below", "added": "light other", "times": "light part", "purity": "light",
        "kind_of": "light", "pure_light": "kind", "opposite_kind": "kind", "lens": "x y below",
        "product": "light other", "split": "light kind",
    },
    "tables": {
        "is_table": "value", "table_of": "rows below", "unit": "", "table_sum": "table other",
        "table_product": "table other", "table_times": "table part", "led_numbers": "table light",
        "led_light": "table light", "greatest_share": "table", "least_share": "table", "brightens": "table",
        "table_from": "images", "tell_table": "lights", "is_told": "lights light",
    },
    "plates": {
        "is_plate": "value", "is_stack": "value", "table_of_plate": "plate", "table_of_stack": "stack",
        "through": "stack light", "are_alike": "stack other", "parting_light": "stack other",
    },
    "amplitudes": {
        "light_of_amplitude": "amplitude", "amplitude_of": "light", "led_amplitude": "matrix amplitude",
        "matrix_product": "matrix other", "table_of_matrix": "matrix", "is_pure_table": "table", "matrix_of": "table",
    },
    "keepers": {
        "companion": "table", "weight": "table row", "is_made": "table", "made_rank": "table", "parts_of": "table",
        "barring_row": "table", "keeps_lights": "table", "lost_light": "table",
    },
    "turns": {
        "is_turn": "value", "turn_along": "numbers", "turn_about": "kind setting", "joined_turns": "turn other",
        "turn_back": "turn", "turn_times": "turn many", "turned_light": "light turn", "turned_kind": "kind turn",
        "turn_cosine": "turn", "turn_order": "turn", "kept_kinds": "turn", "turn_of_table": "table",
        "two_halves": "turn", "linear_and_round": "turn",
    },
    "leads": {
        "leading": "light other", "is_fitting": "pairs turn", "fitting_turn": "pairs", "turns_that_fit": "pairs",
        "sure_image": "pairs light", "bar_to_turn": "pairs",
    },
    "courses": {
        "is_course": "value", "course_of": "numbers below", "level_at": "course setting", "level_course": "level",
        "course_less": "course other", "turned_course": "course setting", "course_parts": "course",
        "course_of_parts": "parts", "course_through": "samples", "setting_sum": "setting other",
        "setting_back": "setting",
    },
    "rigs": {
        "is_rig": "value", "stack_at": "rig setting", "course_of_rig": "rig light look", "is_idle": "rig",
        "same_rigs": "rig other", "parting_setting": "rig other", "rig_rank": "rig look",
        "light_of_course": "rig look course",
    },
    "angles": {
        "compare_least": "course level", "compare_greatest": "course level", "angles_with": "course level",
        "setting_below": "course level", "setting_above": "course level", "level_tale": "course level",
        "swing_tale": "course", "tops": "course", "compare_courses": "course other", "square_number": "course",
    },
    "backs": {
        "plate_back": "plate", "stack_back": "stack", "is_reciprocal": "stack", "ways": "stack",
        "round_table": "stack", "returns": "stack", "round_turn": "turn",
    },
    "rounds": {
        "after_rounds": "stack light many", "dark_after": "stack light", "mean_light": "stack light",
        "last_level": "stack light", "fades": "stack light", "all_fade": "stack", "unchanged_light": "stack",
        "unchanged_span": "stack", "comes_back": "stack light", "echo": "stack light",
    },
    "fans": {"row_share": "kinds", "fan_table": "plate setting many"},
    "beams": {
        "beam_light": "one two light phase", "beam_level": "one two light phase", "fringe": "one two light",
        "has_fringes": "one two light", "contrast_square": "one two light", "brightest": "one two light",
        "level_ends": "one two light", "times_at": "one two light level", "ring": "one two light",
    },
    "fringes": {
        "never_fringes": "one two", "plain_fringes": "one two", "fringeless": "one two",
        "fringes_behind": "one two light", "at_most": "one two share", "sharper": "one two share",
        "blunt_phases": "one two",
    },
    "readings": {
        "is_reading": "value", "fits": "light readings", "what_fits": "readings", "any_light": "readings",
        "bar": "readings", "may_be_dark": "readings", "may_be_plain": "readings", "may_be_pure": "readings",
    },
    "ranges": {
        "level_range": "readings look", "is_settled": "readings look", "settled_level": "readings look",
        "settled_ratio": "readings look other", "is_kept": "readings reading", "needed": "readings",
        "looks_wanted": "readings", "say_the_same": "readings others",
    },
    "mixing": {
        "mixture": "lights light", "parting_row": "lights light", "fewest_lights": "lights light",
        "weight_range": "lights light index", "needless": "lights", "reach_the_same": "lights others",
    },
    "patchworks": {
        "patchwork": "tables table", "sum_weights": "tables table", "parting_table": "tables table",
        "fewest_tables": "tables table",
    },
    "texts": {"plate_text": "plate", "plate_in": "text"},
    "checker": {"accepts": "claim paper"},
    "certificates": {
        "certify_stacks": "stack other", "certify_keeper": "table", "certify_made": "table", "certify_fringes": "one two",
        "certify_readings": "readings", "certify_look": "readings look", "certify_mixture": "lights light",
        "certify_patchwork": "tables table", "certify_pairs": "pairs", "certify_turn": "turn",
        "certify_courses": "course other", "certify_rounds": "stack", "certify_level": "stack light",
        "certify_return": "stack light",
    },
}
# Classes, with the arguments that each is made with, and their methods and properties (None).
CLASSES = {
    "benches": {"Bench": ("", {
        "put_light": "name light", "put_plate": "name plate", "lay": "name light plates", "drop": "name", "thing": "name",
        "stack": "name", "out": "name many", "wish": "wish", "lift": "index", "undo": "", "trial": "", "tried": "action",
        "__len__": "", "lights": None, "plates": None, "beams": None, "wishes": None,
    })},
    "consoles": {"Console": ("bench", {"say": "line"})},
}


class InterfaceTest(unittest.TestCase):

    def test_each_function_is_defined_where_it_is_listed(self):
        for module, functions in INTERFACE.items():
            found = importlib.import_module("platelights." + module)
            for name, parameters in functions.items():
                with self.subTest(module=module, name=name):
                    function = getattr(found, name)
                    self.assertEqual(function.__module__, found.__name__)
                    signature = inspect.signature(function)
                    self.assertEqual(list(signature.parameters), parameters.split())
                    for parameter in signature.parameters.values():
                        self.assertEqual(parameter.kind, parameter.POSITIONAL_OR_KEYWORD)
                        self.assertIs(parameter.default, parameter.empty)

    def test_each_class_is_defined_where_it_is_listed(self):
        for module, classes in CLASSES.items():
            found = importlib.import_module("platelights." + module)
            for name, (made_with, methods) in classes.items():
                told = getattr(found, name)
                self.assertEqual((told.__module__, told.__bases__), (found.__name__, (object,)))
                self.assertEqual(list(inspect.signature(told).parameters), made_with.split())
                for method, parameters in methods.items():
                    with self.subTest(name=name, method=method):
                        own = vars(told)[method]
                        if parameters is None:
                            self.assertIsInstance(own, property)
                        else:
                            self.assertEqual(list(inspect.signature(own).parameters), ["self"] + parameters.split())

    def test_each_module_can_be_imported_alone(self):
        folder = Path(__file__).parent.parent / "platelights"
        for file in sorted(folder.glob("*.py")):
            importlib.import_module("platelights." + file.stem if file.stem != "__init__" else "platelights")


if __name__ == "__main__":
    unittest.main()
