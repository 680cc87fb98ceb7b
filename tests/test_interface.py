"""The interface of DOC.md: names, arguments and places, for the modules that have landed."""

import importlib
import inspect
import unittest

LISTED = {
    "errors": {"ConicError": ["what"], "BadText": ["what"], "BadForm": ["what"]},
    "numbers": {
        "bezout": ["a", "b"], "measure": ["numbers"], "floor_root": ["n"], "is_square": ["n"],
        "prime_parts": ["n"], "is_prime": ["n"], "square_measures": ["n"],
    },
    "residues": {"square_roots": ["d", "m"], "count_roots": ["d", "m"], "is_residue": ["d", "p"]},
    "fractions": {
        "expand": ["p", "q", "d"], "convergents": ["parts"], "part_at": ["expansion", "index"], "pell": ["d"],
    },
}


class TestInterface(unittest.TestCase):

    def test_names_arguments_and_places(self):
        for word, names in LISTED.items():
            module = importlib.import_module("wholeconic." + word)
            for name, arguments in names.items():
                one = getattr(module, name)
                self.assertEqual(one.__module__, module.__name__, name)
                self.assertEqual(list(inspect.signature(one).parameters), arguments, name)

    def test_arguments_by_keyword(self):
        for word, name, given, expected in (
            ("numbers", "measure", {"numbers": [4, 6]}, 2), ("numbers", "floor_root", {"n": 8}, 2),
            ("numbers", "is_square", {"n": 9}, True), ("numbers", "prime_parts", {"n": 12}, [(2, 2), (3, 1)]),
            ("numbers", "is_prime", {"n": 7}, True), ("numbers", "square_measures", {"n": 4}, [1, 2]),
            ("residues", "square_roots", {"d": 4, "m": 5}, [2, 3]), ("residues", "count_roots", {"d": 4, "m": 5}, 2),
            ("residues", "is_residue", {"d": 2, "p": 7}, True),
            ("fractions", "expand", {"p": 0, "q": 1, "d": 2}, ((1,), (2,))),
            ("fractions", "convergents", {"parts": [3]}, [(3, 1)]),
            ("fractions", "part_at", {"expansion": ((1,), (2,)), "index": 5}, 2),
            ("fractions", "pell", {"d": 3}, (2, 1)),
        ):
            module = importlib.import_module("wholeconic." + word)
            self.assertEqual(getattr(module, name)(**given), expected)


if __name__ == "__main__":
    unittest.main()
