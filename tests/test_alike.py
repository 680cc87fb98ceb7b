"""Points 4.1 to 4.3 (with 3.3, 3.4 and 3.5), and the interface of wholeconic/alike.py."""

import math
import random
import unittest

from tests.drawing import (
    MIRROR, discriminant_of, drawn_change, drawn_great_form, form_behind, forms_up_to, kind_of, matrices_up_to,
    product_of)
from wholeconic.alike import canonical_form, mirrored_change, proper_change, self_group
from wholeconic.definite import reduce_definite
from wholeconic.forms import act, scaled
from wholeconic.indefinite import canonical, self_change
from wholeconic.matrices import UNIT, determinant, inverse, multiply, negative, raised
from wholeconic.split import canonical_flat, canonical_split

LIMIT = 10 ** 10
# Forms of all kinds at the bounds of their discriminants.
GREAT_ONES = (
    (500, 0, 500), (-500, 0, -500), (577, 577, 577), (17, 1, 14706), (1, 0, 249999), (-2, 0, -124999),
    (0, 1000, 0), (0, 1000, 250), (0, 999, 998), (0, 1, 0), (7, 0, 0), (-LIMIT, 0, 0), (1, 0, -2500 + 1),
    (1, 99, -49), (50, 0, -49), (1, 1, -2442), (3, 97, -49))


def with_numbers(m, limit):
    return all(abs(number) <= limit for number in m)


class Checks(unittest.TestCase):

    def check_matrix(self, m, sign):
        self.assertIs(type(m), tuple)
        self.assertEqual([type(number) for number in m], [int] * 4)
        self.assertEqual(determinant(m), sign)

    def check_canonical(self, form):
        answer = canonical_form(form)
        self.assertIs(type(answer), tuple)
        found, m = answer
        self.check_matrix(m, 1)
        self.assertIs(type(found), tuple)
        self.assertEqual([type(number) for number in found], [int] * 3)
        self.assertEqual(act(form, m), found)
        return found

    def check_change(self, form, other):
        m = proper_change(form, other)
        self.check_matrix(m, 1)
        self.assertEqual(act(form, m), other, (form, other))

    def check_mirrored(self, form, other):
        m = mirrored_change(form, other)
        self.check_matrix(m, -1)
        self.assertEqual(act(form, m), other, (form, other))


class TestCanonicalForm(Checks):

    def test_written_out(self):
        for form, found in (
            ((6, 1, 1), (1, 1, 6)), ((-2, 1, -2), (-2, -1, -2)), ((1, 0, -2), (-1, 2, 1)), ((1, 0, -1), (0, 2, 1)),
            ((12, 36, 27), (3, 0, 0)), ((0, 0, -7), (-7, 0, 0)), ((0, 0, 0), (0, 0, 0)), ((0, -5, 2), (0, 5, 3)),
        ):
            self.assertEqual(self.check_canonical(form), found, form)

    def test_each_kind(self):
        finders = {
            "definite": reduce_definite, "flat": canonical_flat, "split": canonical_split, "indefinite": canonical}
        for form in forms_up_to(6):
            self.assertEqual(self.check_canonical(form), finders[kind_of(form)](form)[0])

    def test_the_form_0(self):
        self.assertEqual(canonical_form((0, 0, 0)), ((0, 0, 0), UNIT))

    def test_the_same_after_drawn_changes(self):
        source = random.Random(71)
        forms = list(forms_up_to(12))
        for form in source.sample(forms, 400):
            found = self.check_canonical(form)
            for steps in (2, 6, 20):
                other = form_behind(form, drawn_change(source, steps, 9))
                self.assertEqual(self.check_canonical(other), found)
            self.assertEqual(self.check_canonical(found), found)

    def test_at_the_bounds(self):
        source = random.Random(72)
        for form in GREAT_ONES:
            found = self.check_canonical(form)
            for _ in range(4):
                self.assertEqual(self.check_canonical(drawn_great_form(source, form, LIMIT)), found)


class TestSelfGroup(Checks):

    def check(self, form):
        answer = self_group(form)
        self.assertIs(type(answer), tuple)
        found, step = answer
        self.assertIs(type(found), list)
        for m in found + ([] if step is None else [step]):
            self.check_matrix(m, 1)
            self.assertEqual(act(form, m), form)
        self.assertEqual(len(set(found)), len(found))
        return found, step

    def test_written_out(self):
        self.assertEqual(sorted(self_group((1, 0, 1))[0]), [(-1, 0, 0, -1), (0, -1, 1, 0), (0, 1, -1, 0), UNIT])
        self.assertIsNone(self_group((1, 0, 1))[1])
        self.assertEqual(self_group((1, 0, -2))[1], (3, 4, 2, 3))
        self.assertEqual(self_group((12, 36, 27))[1], (-5, -9, 4, 7))
        self.assertEqual(self_group((5, 0, 0))[1], (1, 0, 1, 1))
        self.assertEqual(self_group((0, 0, -3))[1], (1, -1, 0, 1))
        self.assertIsNone(self_group((0, 0, 0)))

    def test_small_forms_by_trying_all(self):
        changes = matrices_up_to(5, 1)
        for form in forms_up_to(3):
            if form == (0, 0, 0):
                continue
            found, step = self.check(form)
            if kind_of(form) in ("definite", "split"):
                self.assertIsNone(step)
            else:
                self.assertEqual(sorted(found), [negative(UNIT), UNIT])
                powers = [raised(step, many) for many in range(-40, 41)]
                found = set(powers + [negative(power) for power in powers])
            expected = [m for m in changes if form_behind(form, m) == form]
            self.assertEqual(sorted(m for m in found if with_numbers(m, 5)), expected, form)

    def test_definite_forms(self):
        source = random.Random(73)
        for form, many in (
            ((1, 0, 1), 4), ((1, 1, 1), 6), ((2, 1, 3), 2), ((2, 0, 2), 4), ((3, 3, 3), 6), ((5, 2, 5), 2),
            ((-1, 0, -1), 4), ((-7, -7, -7), 6), ((-2, 1, -3), 2), ((1, 0, 2), 2), ((577, 577, 577), 6),
        ):
            for steps in (0, 1, 5, 15):
                found, step = self.check(form_behind(form, drawn_change(source, steps, 9)))
                self.assertEqual(len(found), many, form)
                self.assertIsNone(step)

    def test_split_forms(self):
        for form in ((0, 1, 0), (1, 0, -1), (0, -4, 2), (6, 5, 1), (0, 1000, 500), (LIMIT, 1000, 0)):
            found, step = self.check(form)
            self.assertEqual(sorted(found), [negative(UNIT), UNIT])
            self.assertIsNone(step)

    def test_indefinite_forms(self):
        for form in ((1, 0, -2), (3, 1, -5), (-2, 4, 8), (1, 1, -2442), (10, 0, -10 ** 2 + 1)):
            found, step = self.check(form)
            self.assertEqual(sorted(found), [negative(UNIT), UNIT])
            self.assertEqual(step, self_change(form))

    def test_flat_forms(self):
        for g in (-3, 1, 8):
            for p in range(0, 8):
                for q in range(-8, 9):
                    if math.gcd(p, q) == 1 and (p > 0 or q == 1):
                        found, step = self.check((g * p * p, 2 * g * p * q, g * q * q))
                        self.assertEqual(sorted(found), [negative(UNIT), UNIT])
                        self.assertEqual(step, (1 - p * q, -q * q, p * p, 1 + p * q))

    def test_at_the_bounds(self):
        source = random.Random(74)
        for form in GREAT_ONES:
            self.check(form)
            self.check(drawn_great_form(source, form, LIMIT))

    def test_lists_are_new(self):
        for form in ((1, 0, 1), (0, 1, 0), (1, 0, -2), (1, 2, 1)):
            many = len(self_group(form)[0])
            self_group(form)[0].clear()
            self.assertEqual(len(self_group(form)[0]), many)


class TestChanges(Checks):

    def test_written_out(self):
        self.check_change((6, 1, 1), (1, 1, 6))
        self.check_change((1, 0, -2), (-1, 2, 1))
        self.check_change((0, 1, 0), (0, -1, 0))
        self.check_mirrored((2, 1, 3), (2, -1, 3))
        for form, other in (
            ((2, 1, 3), (2, -1, 3)), ((1, 0, 1), (-1, 0, -1)), ((1, 0, -3), (-1, 0, 3)), ((1, 1, 6), (2, 1, 3)),
            ((0, 2, 0), (0, 2, 1)), ((1, 0, 0), (-1, 0, 0)), ((1, 0, 0), (2, 0, 0)), ((0, 0, 0), (1, 0, 0)),
            ((1, 0, 1), (1, 0, -1)), ((1, 0, 1), (1, 0, 2)), ((1, 0, -2), (2, 0, -4)), ((2, 0, 2), (1, 0, 4)),
            ((0, 3, 1), (0, 3, 2)), ((0, 1, 0), (0, 2, 0)), ((0, 0, 0), (0, 1, 0)),
        ):
            self.assertIsNone(proper_change(form, other), (form, other))
            self.assertIsNone(proper_change(other, form), (form, other))

    def test_written_out_mirrored(self):
        self.assertIsNone(mirrored_change((1, 1, 6), (2, 1, 3)))
        self.assertIsNone(mirrored_change((1, 0, -3), (-1, 0, 3)))
        self.assertIsNone(mirrored_change((1, 0, 0), (-1, 0, 0)))
        self.assertIsNone(mirrored_change((0, 0, 0), (0, 1, 0)))
        # Forms with one mirrored change to themselves, and forms without any.
        for form in ((1, 0, 1), (2, 1, 2), (1, 1, 1), (0, 1, 0), (1, 2, 1), (1, 0, -2), (3, 3, 4), (-5, 0, -6)):
            self.check_mirrored(form, form)
        for form in ((2, 1, 3), (-3, 1, -4), (0, 5, 2), (3, 1, -19)):
            self.assertIsNone(mirrored_change(form, form), form)

    def test_the_form_0(self):
        self.check_change((0, 0, 0), (0, 0, 0))
        self.check_mirrored((0, 0, 0), (0, 0, 0))

    def test_all_pairs_of_small_forms_by_trying_all(self):
        proper, mirrored = matrices_up_to(7, 1), matrices_up_to(7, -1)
        forms = list(forms_up_to(2))
        for form in forms:
            led = {form_behind(form, m) for m in proper}
            turned = {form_behind(form, m) for m in mirrored}
            found = canonical_form(form)[0]
            for other in forms:
                alike = canonical_form(other)[0] == found
                if alike:
                    self.check_change(form, other)
                else:
                    self.assertIsNone(proper_change(form, other))
                # All alike forms with numbers up to 2 are led to one another by numbers up to 7.
                self.assertEqual(alike, other in led, (form, other))
                if other in turned:
                    self.check_mirrored(form, other)
                else:
                    self.assertIsNone(mirrored_change(form, other), (form, other))

    def test_kinds_and_discriminants_are_not_mixed(self):
        forms = [form for form in forms_up_to(4) if 1 in form]
        source = random.Random(75)
        for form, other in zip(source.sample(forms, 200), source.sample(forms, 200)):
            if discriminant_of(form) != discriminant_of(other):
                self.assertIsNone(proper_change(form, other))
                self.assertIsNone(mirrored_change(form, other))

    def test_drawn_forms_and_changes(self):
        source = random.Random(76)
        for form in source.sample(list(forms_up_to(15)), 400):
            for steps in (1, 5, 15):
                other = form_behind(form, drawn_change(source, steps, 9))
                self.check_change(form, other)
                self.check_change(other, form)
                self.check_mirrored(form, form_behind(other, MIRROR))
                self.check_mirrored(form_behind(other, MIRROR), form)

    def test_at_the_bounds(self):
        source = random.Random(77)
        for form in GREAT_ONES:
            other, third = drawn_great_form(source, form, LIMIT), drawn_great_form(source, form, LIMIT)
            self.check_change(other, third)
            self.check_mirrored(other, form_behind(third, MIRROR))
        self.assertIsNone(proper_change((2, 1, 10 ** 5), (1, 1, 2 * 10 ** 5)))

    def test_all_changes_are_one_times_the_self_changes(self):
        changes = matrices_up_to(5, 1)
        source = random.Random(78)
        for form in forms_up_to(2):
            other = form_behind(form, source.choice(changes))
            m = proper_change(form, other)
            group = self_group(other)
            if group is None:
                continue
            found, step = group
            powers = [UNIT] if step is None else [raised(step, many) for many in range(-60, 61)]
            found = {product_of(m, product_of(s, power)) for s in found for power in powers}
            expected = [n for n in changes if form_behind(form, n) == other]
            self.assertEqual(sorted(n for n in found if with_numbers(n, 5)), expected, (form, other))

    def test_negatives_and_multiples(self):
        for form in ((2, 1, 3), (1, 1, -3), (0, 5, 2), (3, 6, 3)):
            for number in (2, -1, -3):
                other = form_behind(form, (2, 1, 1, 1))
                self.check_change(scaled(form, number), scaled(other, number))
                self.assertIsNone(proper_change(form, scaled(other, 2)))

    def test_changes_there_and_back(self):
        m = proper_change((6, 1, 1), (1, 1, 6))
        self.assertEqual(act((1, 1, 6), inverse(m)), (6, 1, 1))
        self.assertEqual(multiply(m, inverse(m)), UNIT)


if __name__ == "__main__":
    unittest.main()
