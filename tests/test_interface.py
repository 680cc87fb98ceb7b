"""The interface of DOC.md: names, arguments and places."""

import importlib
import inspect
import unittest

LISTED = {
    "errors": {"ConicError": ["what"], "BadText": ["what"], "BadForm": ["what"]},
    "numbers": {
        "bezout": ["a", "b"], "measure": ["numbers"], "floor_root": ["n"], "is_square": ["n"],
        "prime_parts": ["n"], "is_prime": ["n"], "square_measures": ["n"],
    },
    "residues": {"square_roots": ["d", "m"], "count_roots": ["d", "m"], "is_residue": ["d", "p"]},
    "fractions": {
        "expand": ["p", "q", "d"], "convergents": ["parts"], "part_at": ["expansion", "index"], "pell": ["d"],
    },
    "matrices": {
        "multiply": ["m", "n"], "determinant": ["m"], "apply": ["m", "point"], "negative": ["m"], "inverse": ["m"],
        "raised": ["m", "many"],
    },
    "forms": {
        "discriminant": ["form"], "content": ["form"], "worth": ["form", "point"], "act": ["form", "m"],
        "scaled": ["form", "number"], "divided": ["form", "number"], "kind": ["form"],
    },
    "definite": {
        "is_reduced": ["form"], "reduce_definite": ["form"], "self_changes": ["form"], "positive_classes": ["d"],
    },
    "indefinite": {
        "is_reduced": ["form"], "reduce_indefinite": ["form"], "step_of": ["form"], "cycle": ["form"],
        "canonical": ["form"], "least_unit": ["d"], "self_change": ["form"],
    },
    "split": {
        "zero_lines": ["form"], "canonical_split": ["form"], "canonical_flat": ["form"], "flat_parts": ["form"],
    },
    "alike": {
        "canonical_form": ["form"], "self_group": ["form"], "proper_change": ["form", "other"],
        "mirrored_change": ["form", "other"],
    },
    "classes": {
        "classes": ["d"], "principal": ["d"], "opposite": ["form"], "compose": ["form", "other"],
        "class_power": ["form", "many"],
    },
    "genera": {"genus": ["form"], "squares": ["d"], "same_genus": ["form", "other"], "class_order": ["form"]},
    "represent": {
        "rooted_forms": ["d", "n"], "first_points": ["form", "n"], "definite_points": ["form", "n"],
        "split_points": ["form", "n"], "orbit_points": ["form", "n"], "size": ["point"], "settle": ["point", "m"],
        "measures": ["n"], "is_represented": ["form", "n"],
    },
    "lines": {
        "line_of": ["d", "e", "f"], "settled_line": ["point", "direction"], "step_on": ["line", "point"],
        "quadratic_roots": ["a", "b", "c"], "value_at": ["row", "n"],
    },
    "conic": {"value": ["equation", "point"], "centre": ["equation"], "solve": ["equation"]},
    "changes": {
        "change_equation": ["equation", "m", "shift"], "old_point": ["m", "shift", "point"],
        "new_point": ["m", "shift", "point"], "scale_equation": ["equation", "number"], "turn_over": ["equation"],
    },
    "congruent": {"cut": ["answer", "modulus", "rests"]},
    "answers": {
        "moved": ["change", "point"], "back_change": ["change"], "moved_often": ["change", "point", "steps"],
        "name_of": ["answer", "point"], "tells": ["answer", "point"], "point_of": ["answer", "name"],
        "in_box": ["answer", "box"], "far": ["triple", "point"],
    },
    "papers": {"paper_of": ["equation"], "judge": ["equation", "answer", "paper"]},
    "text": {"read_equation": ["text"], "write_equation": ["equation"]},
}


class TestInterface(unittest.TestCase):

    def test_values(self):
        self.assertEqual(importlib.import_module("wholeconic.matrices").UNIT, (1, 0, 0, 1))
        self.assertEqual(importlib.import_module("wholeconic.conic").NONE, ("none",))
        self.assertEqual(importlib.import_module("wholeconic.conic").ALL, ("all",))
        self.assertEqual(importlib.import_module("wholeconic.papers").PLAIN, ("plain",))

    def test_names_arguments_and_places(self):
        for word, names in LISTED.items():
            module = importlib.import_module("wholeconic." + word)
            for name, arguments in names.items():
                one = getattr(module, name)
                self.assertEqual(one.__module__, module.__name__, name)
                self.assertEqual(list(inspect.signature(one).parameters), arguments, name)

    def test_arguments_by_keyword(self):
        for word, name, given, expected in (
            ("numbers", "measure", {"numbers": [4, 6]}, 2), ("numbers", "floor_root", {"n": 8}, 2),
            ("numbers", "is_square", {"n": 9}, True), ("numbers", "prime_parts", {"n": 12}, [(2, 2), (3, 1)]),
            ("numbers", "is_prime", {"n": 7}, True), ("numbers", "square_measures", {"n": 4}, [1, 2]),
            ("residues", "square_roots", {"d": 4, "m": 5}, [2, 3]), ("residues", "count_roots", {"d": 4, "m": 5}, 2),
            ("residues", "is_residue", {"d": 2, "p": 7}, True),
            ("fractions", "expand", {"p": 0, "q": 1, "d": 2}, ((1,), (2,))),
            ("fractions", "convergents", {"parts": [3]}, [(3, 1)]),
            ("fractions", "part_at", {"expansion": ((1,), (2,)), "index": 5}, 2),
            ("fractions", "pell", {"d": 3}, (2, 1)),
            ("matrices", "multiply", {"m": (2, 1, 1, 1), "n": (1, 1, 0, 1)}, (2, 3, 1, 2)),
            ("matrices", "determinant", {"m": (2, 1, 1, 1)}, 1),
            ("matrices", "apply", {"m": (2, 1, 1, 1), "point": (1, 0)}, (2, 1)),
            ("matrices", "negative", {"m": (2, 1, 1, 1)}, (-2, -1, -1, -1)),
            ("matrices", "inverse", {"m": (2, 1, 1, 1)}, (1, -1, -1, 2)),
            ("matrices", "raised", {"m": (2, 1, 1, 1), "many": 2}, (5, 3, 3, 2)),
            ("forms", "discriminant", {"form": (1, 1, 6)}, -23), ("forms", "content", {"form": (2, 4, 6)}, 2),
            ("forms", "worth", {"form": (1, 1, 6), "point": (1, 1)}, 8),
            ("forms", "act", {"form": (1, 1, 6), "m": (0, -1, 1, 0)}, (6, -1, 1)),
            ("forms", "scaled", {"form": (1, 1, 6), "number": 2}, (2, 2, 12)),
            ("forms", "divided", {"form": (2, 2, 12), "number": 2}, (1, 1, 6)),
            ("forms", "kind", {"form": (1, 1, 6)}, "definite"),
            ("definite", "is_reduced", {"form": (1, 1, 6)}, True),
            ("definite", "reduce_definite", {"form": (1, 1, 6)}, ((1, 1, 6), (1, 0, 0, 1))),
            ("definite", "positive_classes", {"d": -3}, [(1, 1, 1)]),
            ("indefinite", "is_reduced", {"form": (1, 1, -1)}, True),
            ("indefinite", "reduce_indefinite", {"form": (1, 1, -1)}, ((1, 1, -1), (1, 0, 0, 1))),
            ("indefinite", "step_of", {"form": (1, 1, -1)}, (0, -1, 1, -1)),
            ("indefinite", "canonical", {"form": (-1, 1, 1)}, ((-1, 1, 1), (1, 0, 0, 1))),
            ("indefinite", "least_unit", {"d": 5}, (3, 1)),
            ("indefinite", "self_change", {"form": (1, 0, -2)}, (3, 4, 2, 3)),
            ("split", "canonical_split", {"form": (0, 2, 1)}, ((0, 2, 1), (1, 0, 0, 1))),
            ("split", "canonical_flat", {"form": (5, 0, 0)}, ((5, 0, 0), (1, 0, 0, 1))),
            ("split", "flat_parts", {"form": (4, 8, 4)}, (4, 1, 1)),
            ("alike", "canonical_form", {"form": (1, 1, 6)}, ((1, 1, 6), (1, 0, 0, 1))),
            ("alike", "self_group", {"form": (0, 0, 0)}, None),
            ("alike", "proper_change", {"form": (2, 1, 3), "other": (2, -1, 3)}, None),
            ("alike", "mirrored_change", {"form": (1, 0, 1), "other": (1, 0, 2)}, None),
            ("classes", "classes", {"d": -20}, [(1, 0, 5), (2, 2, 3)]),
            ("classes", "principal", {"d": -20}, (1, 0, 5)), ("classes", "opposite", {"form": (2, 1, 3)}, (2, -1, 3)),
            ("classes", "class_power", {"form": (2, 1, 3), "many": 2}, (2, -1, 3)),
            ("genera", "genus", {"form": (2, 2, 3)}, (-1, -1)), ("genera", "squares", {"d": -20}, [(1, 0, 5)]),
            ("genera", "same_genus", {"form": (1, 0, 5), "other": (2, 2, 3)}, False),
            ("genera", "class_order", {"form": (2, 1, 3)}, 3),
            ("represent", "rooted_forms", {"d": -23, "n": 2}, [(2, 1, 3), (2, 3, 4)]),
            ("represent", "first_points", {"form": (1, 0, 1), "n": 3}, []),
            ("represent", "definite_points", {"form": (1, 0, 5), "n": 1}, [(-1, 0), (1, 0)]),
            ("represent", "split_points", {"form": (0, 1, 0), "n": 1}, [(-1, -1), (1, 1)]),
            ("represent", "orbit_points", {"form": (1, 0, -2), "n": 1}, ((3, 4, 2, 3), [(-1, 0), (1, 0)])),
            ("represent", "size", {"point": (3, 4)}, 25),
            ("represent", "settle", {"point": (3, 2), "m": (3, 4, 2, 3)}, (1, 0)),
            ("represent", "is_represented", {"form": (1, 0, 1), "n": 3}, False),
            ("lines", "line_of", {"d": 2, "e": 3, "f": 1}, ((1, -1), (3, -2))),
            ("lines", "settled_line", {"point": (7, 5), "direction": (2, 3)}, ((1, -4), (2, 3))),
            ("lines", "step_on", {"line": ((1, -4), (2, 3)), "point": (7, 5)}, 3),
            ("lines", "quadratic_roots", {"a": 1, "b": 0, "c": -4}, [-2, 2]),
            ("lines", "value_at", {"row": (1, 2, 3), "n": 10}, 123),
            ("conic", "value", {"equation": (1, 2, 3, 4, 5, 6), "point": (1, 1)}, 21),
            ("conic", "centre", {"equation": (1, 0, 1, 1, 1, 0)}, (2, -1, -1)),
            ("conic", "solve", {"equation": (1, 0, 1, 0, 0, 0)}, ("points", ((0, 0),))),
            ("changes", "change_equation", {"equation": (1, 0, 0, 0, 0, 0), "m": (1, 0, 0, 1), "shift": (3, 2)},
             (1, 0, 0, 6, 0, 9)),
            ("changes", "old_point", {"m": (0, 1, 1, 0), "shift": (3, 2), "point": (5, 7)}, (10, 7)),
            ("changes", "new_point", {"m": (0, 1, 1, 0), "shift": (3, 2), "point": (10, 7)}, (5, 7)),
            ("changes", "scale_equation", {"equation": (1, 2, 3, 4, 5, 6), "number": 2}, (2, 4, 6, 8, 10, 12)),
            ("changes", "turn_over", {"equation": (1, 2, 3, 4, 5, 6)}, (3, 2, 1, 5, 4, 6)),
            ("congruent", "cut", {"answer": ("points", ((0, 1), (2, 3))), "modulus": 2, "rests": (0, 5)},
             ("points", ((0, 1), (2, 3)))),
            ("answers", "moved", {"change": ((1, 2, 0, 1), (3, 4)), "point": (5, 6)}, (20, 10)),
            ("answers", "back_change", {"change": ((1, 2, 0, 1), (3, 4))}, ((1, -2, 0, 1), (5, -4))),
            ("answers", "moved_often", {"change": ((1, 0, 0, 1), (3, 4)), "point": (5, 6), "steps": 2}, (11, 14)),
            ("answers", "name_of", {"answer": ("points", ((0, 1), (2, 3))), "point": (2, 3)}, (1, 0)),
            ("answers", "tells", {"answer": ("points", ((0, 1), (2, 3))), "point": (2, 4)}, False),
            ("answers", "point_of", {"answer": ("points", ((0, 1), (2, 3))), "name": (1, 0)}, (2, 3)),
            ("answers", "in_box", {"answer": ("points", ((0, 1), (2, 3))), "box": (0, 1, 0, 1)}, [(0, 1)]),
            ("answers", "far", {"triple": (2, 1, 1), "point": (1, 2)}, 10),
            ("papers", "paper_of", {"equation": (0, 1, 0, 0, 0, -2)}, ("plain",)),
            ("papers", "judge", {"equation": (0, 0, 0, 0, 0, 1), "answer": ("none",), "paper": ("plain",)}, True),
            ("text", "read_equation", {"text": "x^2 = 2*y"}, (1, 0, 0, 0, -2, 0)),
            ("text", "write_equation", {"equation": (1, 0, 0, 0, -2, 0)}, "x^2 - 2*y = 0"),
        ):
            module = importlib.import_module("wholeconic." + word)
            before = repr(given)
            found = getattr(module, name)(**given)
            self.assertEqual(found, expected)
            self.assertIs(type(found), type(expected))
            self.assertEqual(repr(given), before)
            if isinstance(found, list):
                self.assertIsNot(getattr(module, name)(**given), found)


if __name__ == "__main__":
    unittest.main()
