"""The names and places of arguments that the document's interface lists."""

import importlib
import inspect
import unittest

FUNCTIONS = {
    "colours": {"is_colour": 2, "apart": 2},
    "boxes": {"is_box": 2, "holds": 2, "box_of": 1, "both_boxes": 2, "near_box": 2, "far_box": 2},
    "parts": {"part": 2, "plus": 2, "times": 2, "before": 2},
    "middles": {"middle_of": 1, "far_of": 2, "spread_of": 1, "rounded": 1, "as_middle": 1},
    "looking": {"nearest": 2, "in_turn": 2, "nearest_few": 3, "within": 3, "nearest_middle": 2},
    "lines": {"line_table": 3, "by_table": 2},
    "linecheck": {"shows_table": 4},
    "trees": {"tree_of": 2, "found_in": 3, "few_in": 4, "within_in": 4},
    "treecheck": {"is_tree": 3, "shows_nearest": 4},
    "pictures": {"counts_in": 1, "most_used": 2, "numbers_by": 2, "painted": 2, "lost_in": 2},
    "handing": {"wanted_by": 5, "handed_on": 4},
    "cutting": {"cut_groups": 2, "palette_by_cuts": 2},
    "resting": {"shared_out": 2, "lost_by": 2, "moved_once": 2, "is_resting": 2, "at_rest": 2, "palette_at_rest": 2},
    "best": {"total_of": 1, "best_groups": 2, "best_paper": 2},
    "bestcheck": {"shows_best": 4},
    "bestline": {"best_on_line": 2},
    "changes": {"cost_of": 4, "least_change": 3, "change_paper": 3},
    "changecheck": {"shows_change": 5},
    "texts": {"run": 1},
}
# What each class is made with, and what its methods take behind the object itself.
CLASSES = {
    "kept": ("Kept", 2, {"put": 1, "take": 1, "turn": 2, "all_numbers": 0, "colour_of": 1, "nearest": 1, "few": 2,
                         "within": 2, "tree_now": 0}),
    "painting": ("Painting", 2, {"set_spot": 3, "put_colour": 1, "turn_colour": 2, "take_colour": 1, "numbers": 0,
                                 "palette": 0, "picture": 0, "lost": 0, "undo": 0}),
    "book": ("Book", 0, {"put": 2, "drop": 1, "palette_of": 1, "names": 0, "best_for": 1, "likest": 2}),
}


class Interface(unittest.TestCase):
    def check_takes(self, function, many):
        inspect.signature(function).bind(*range(many))
        for wrong in (many - 1, many + 1):
            with self.assertRaises(TypeError):
                inspect.signature(function).bind(*range(wrong))

    def test_functions_take_their_arguments_by_place(self):
        for file, functions in FUNCTIONS.items():
            module = importlib.import_module("fewcolours." + file)
            for name, many in functions.items():
                with self.subTest(file=file, name=name):
                    function = getattr(module, name)
                    self.assertEqual(function.__module__, "fewcolours." + file)
                    self.check_takes(function, many)

    def test_methods_stand_in_the_classes_themselves(self):
        for file, (name, made_with, methods) in CLASSES.items():
            kind = getattr(importlib.import_module("fewcolours." + file), name)
            self.assertEqual((kind.__module__, kind.__bases__), ("fewcolours." + file, (object,)))
            self.check_takes(kind.__init__, made_with + 1)
            for method, many in methods.items():
                with self.subTest(file=file, method=method):
                    self.check_takes(vars(kind)[method], many + 1)


if __name__ == "__main__":
    unittest.main()
