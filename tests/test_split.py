"""Points 3.2 and 3.5, and the interface of wholeconic/split.py."""

import math
import random
import unittest

from tests.drawing import (
    discriminant_of, drawn_change, drawn_great_form, form_behind, forms_up_to, kind_of, matrices_up_to, value_of)
from wholeconic import split
from wholeconic.forms import act
from wholeconic.matrices import UNIT, completed, determinant
from wholeconic.split import canonical_flat, canonical_split, directed, flat_parts, zero_lines

LIMIT = 10 ** 10
SMALL = list(forms_up_to(8))
SPLIT = [form for form in SMALL if kind_of(form) == "split"]
FLAT = [form for form in SMALL if kind_of(form) == "flat"]


class Checks(unittest.TestCase):

    def check_integers(self, values):
        self.assertIs(type(values), tuple)
        for value in values:
            self.assertIs(type(value), int)

    def check_pair(self, form, answer):
        self.assertIs(type(answer), tuple)
        found, m = answer
        self.check_integers(found)
        self.check_integers(m)
        self.assertEqual((len(found), len(m)), (3, 4))
        self.assertEqual(determinant(m), 1, form)
        self.assertEqual(act(form, m), found)
        return found

    def check_split(self, form):
        found = self.check_pair(form, canonical_split(form))
        k = math.isqrt(discriminant_of(form))
        self.assertEqual(found[:2], (0, k), form)
        self.assertTrue(0 <= found[2] < k, form)
        return found


class TestZeroLines(Checks):

    def lines_by_trying(self, form, limit):
        return sorted(
            (x, y) for x in range(0, limit + 1) for y in range(-limit, limit + 1)
            if math.gcd(x, y) == 1 and (x > 0 or y > 0) and value_of(form, x, y) == 0)

    def check(self, form):
        found = zero_lines(form)
        self.assertIs(type(found), list)
        self.assertEqual(len(found), 2)
        for point in found:
            self.check_integers(point)
            x, y = point
            self.assertEqual(math.gcd(x, y), 1)
            self.assertTrue(x > 0 or (x == 0 and y > 0), form)
            self.assertEqual(value_of(form, x, y), 0)
        self.assertNotEqual(found[0], found[1])
        return sorted(found)

    def test_written_out(self):
        for form, expected in (
            ((0, 1, 0), [(0, 1), (1, 0)]), ((1, 0, -1), [(1, -1), (1, 1)]), ((0, 2, -6), [(1, 0), (3, 1)]),
            ((3, -6, 0), [(0, 1), (2, 1)]), ((0, -2, -6), [(1, 0), (3, -1)]), ((2, 3, 1), [(1, -2), (1, -1)]),
            ((-6, 5, -1), [(1, 2), (1, 3)]), ((5, 5, 0), [(0, 1), (1, -1)]),
        ):
            self.assertEqual(self.check(form), expected, form)

    def test_all_small_forms(self):
        for form in SPLIT:
            self.check(form)

    def test_small_forms_by_trying_all(self):
        for form in SPLIT[::7] + [form for form in SPLIT if 0 in form][::3]:
            self.assertEqual(self.check(form), self.lines_by_trying(form, 16), form)

    def test_at_the_bounds(self):
        source = random.Random(61)
        for k in (1, 2, 999, 1000):
            for c in (0, 1, k // 2, k - 1):
                for form in ((0, k, c), (0, -k, LIMIT), (LIMIT, k, 0), (0, k, -LIMIT)):
                    self.check(form)
                self.check(drawn_great_form(source, (0, k, c), LIMIT))

    def test_lists_are_new(self):
        zero_lines((0, 1, 0)).clear()
        self.assertEqual(len(zero_lines((0, 1, 0))), 2)


class TestDirected(Checks):

    def test_all_small_pairs(self):
        for x in range(-9, 10):
            for y in range(-9, 10):
                if (x, y) != (0, 0):
                    x2, y2 = directed(x, y)
                    self.assertEqual(math.gcd(x2, y2), 1)
                    self.assertEqual(x * y2, y * x2)
                    self.assertTrue(x2 > 0 or (x2 == 0 and y2 == 1))


class TestCompleted(Checks):

    def test_all_small_points(self):
        for x in range(-9, 10):
            for y in range(-9, 10):
                if math.gcd(x, y) == 1:
                    m = completed((x, y))
                    self.assertEqual((m[0], m[2]), (x, y))
                    self.assertEqual(determinant(m), 1)


class TestCanonicalSplit(Checks):

    def test_written_out(self):
        for form, found in (
            ((0, 1, 0), (0, 1, 0)), ((0, -1, 0), (0, 1, 0)), ((1, 0, -1), (0, 2, 1)), ((-1, 0, 1), (0, 2, 1)),
            ((0, 2, 7), (0, 2, 1)), ((0, 3, -1), (0, 3, 2)), ((2, 3, 1), (0, 1, 0)), ((3, 0, -3), (0, 6, 3)),
            ((0, 4, 2), (0, 4, 2)), ((0, -5, 2), (0, 5, 3)), ((2, 5, 0), (0, 5, 3)),
        ):
            self.assertEqual(self.check_split(form), found, form)

    def test_all_small_forms(self):
        for form in SPLIT:
            self.check_split(form)

    def test_canonical_forms_lead_to_themselves(self):
        for k in range(1, 40):
            for c in range(k):
                self.assertEqual(self.check_split((0, k, c)), (0, k, c))

    def test_the_same_after_small_changes(self):
        changes = matrices_up_to(2, 1)
        for form in SPLIT[::11]:
            found = canonical_split(form)[0]
            for m in changes:
                self.assertEqual(canonical_split(form_behind(form, m))[0], found, (form, m))

    def test_the_same_after_drawn_changes(self):
        source = random.Random(62)
        for k in range(1, 60):
            for c in range(0, k, 3):
                for steps in (2, 8, 30):
                    other = form_behind((0, k, c), drawn_change(source, steps, 15))
                    self.assertEqual(self.check_split(other), (0, k, c))

    def test_at_the_bounds(self):
        source = random.Random(63)
        for k in (1, 2, 997, 999, 1000):
            for c in {0, 1 % k, k // 2, k - 1}:
                for _ in range(10):
                    self.assertEqual(self.check_split(drawn_great_form(source, (0, k, c), LIMIT)), (0, k, c))
            self.assertEqual(self.check_split((0, k, LIMIT)), (0, k, LIMIT % k))
            self.assertEqual(self.check_split((0, k, -LIMIT)), (0, k, -LIMIT % k))
            self.check_split((LIMIT, -k, 0))


class TestFlat(Checks):

    def check_parts(self, form):
        found = flat_parts(form)
        self.check_integers(found)
        g, p, q = found
        self.assertEqual(form, (g * p * p, 2 * g * p * q, g * q * q))
        self.assertEqual(math.gcd(p, q), 1)
        self.assertTrue(p > 0 or (p == 0 and q == 1))
        return found

    def check(self, form):
        g = self.check_parts(form)[0]
        self.assertEqual(self.check_pair(form, canonical_flat(form)), (g, 0, 0))

    def test_written_out(self):
        for form, parts in (
            ((0, 0, 0), (0, 1, 0)), ((1, 0, 0), (1, 1, 0)), ((0, 0, 1), (1, 0, 1)), ((0, 0, -7), (-7, 0, 1)),
            ((-5, 0, 0), (-5, 1, 0)), ((1, 2, 1), (1, 1, 1)), ((1, -2, 1), (1, 1, -1)), ((-4, 4, -1), (-1, 2, -1)),
            ((12, 36, 27), (3, 2, 3)), ((4, 0, 0), (4, 1, 0)), ((0, 0, 9), (9, 0, 1)), ((8, 8, 2), (2, 2, 1)),
        ):
            self.assertEqual(self.check_parts(form), parts, form)
            self.check(form)

    def test_the_form_0(self):
        self.assertEqual(canonical_flat((0, 0, 0)), ((0, 0, 0), UNIT))

    def test_all_small_forms(self):
        for form in FLAT:
            self.check(form)

    def test_all_small_parts(self):
        for g in (-12, -1, 1, 2, 30):
            for p in range(0, 13):
                for q in range(-12, 13):
                    if math.gcd(p, q) == 1 and (p > 0 or q == 1):
                        form = (g * p * p, 2 * g * p * q, g * q * q)
                        self.assertEqual(self.check_parts(form), (g, p, q))
                        self.check(form)

    def test_the_same_after_drawn_changes(self):
        source = random.Random(64)
        for g in (-9, -1, 1, 4, 10 ** 6):
            for steps in (1, 3, 8, 20):
                other = form_behind((g, 0, 0), drawn_change(source, steps, 9))
                self.check(other)
                self.assertEqual(canonical_flat(other)[0], (g, 0, 0))

    def test_at_the_bounds(self):
        for form in (
            (LIMIT, 2 * LIMIT, LIMIT), (-LIMIT, 0, 0), (0, 0, LIMIT), (99999 ** 2, 2 * 99999 * 10 ** 5, LIMIT),
            (99999 ** 2, -2 * 99999 * 99998, 99998 ** 2), (-99999 ** 2, 2 * 99999, -1),
        ):
            self.check(form)


class TestArguments(Checks):

    def test_no_argument_is_modified(self):
        form = (2, 5, 2)
        for name in ("zero_lines", "canonical_split"):
            self.assertEqual(getattr(split, name)(form), getattr(split, name)(form))
        self.assertEqual(form, (2, 5, 2))


if __name__ == "__main__":
    unittest.main()
