"""Points 3.3 and 4.2, and the interface of wholeconic/definite.py."""

import math
import random
import unittest

from tests.drawing import discriminant_of, drawn_change, drawn_great_form, form_behind, forms_up_to, matrices_up_to
from wholeconic.definite import is_reduced, positive_classes, reduce_definite, self_changes
from wholeconic.forms import act, scaled
from wholeconic.matrices import UNIT, determinant

LIMIT = 10 ** 10
# The class numbers of some discriminants, as books list them.
CLASS_NUMBERS = (
    (-3, 1), (-4, 1), (-7, 1), (-8, 1), (-11, 1), (-12, 1), (-15, 2), (-16, 1), (-20, 2), (-23, 3), (-27, 1),
    (-28, 1), (-39, 4), (-43, 1), (-47, 5), (-56, 4), (-67, 1), (-71, 7), (-84, 4), (-163, 1), (-199, 9),
    (-420, 8), (-983, 27), (-1848, 8), (-3299, 27), (-3911, 83))


def reduced_by_words(form):
    a, b, c = form
    if not (-a < b and b <= a and a <= c):
        return False
    return b >= 0 if a == c else True


def reduced_forms_by_trying(d):
    """Return the ascending list of all reduced forms with a > 0, of any content, with a discriminant d < 0."""
    found = []
    for b in range(-math.isqrt(-d), math.isqrt(-d) + 1):
        if (b * b - d) % 4 == 0:
            product = (b * b - d) // 4
            for a in range(1, math.isqrt(product) + 1):
                if product % a == 0 and reduced_by_words((a, b, product // a)):
                    found.append((a, b, product // a))
    return sorted(found)


class Checks(unittest.TestCase):

    def check_reduced(self, form):
        """Check what reduce_definite tells of a form, and return the reduced form."""
        answer = reduce_definite(form)
        self.assertIs(type(answer), tuple)
        found, m = answer
        self.assertEqual([type(found), type(m)], [tuple, tuple])
        self.assertEqual([type(number) for number in found + m], [int] * 7)
        self.assertEqual(determinant(m), 1)
        self.assertEqual(act(form, m), found)
        self.assertTrue(reduced_by_words(found if form[0] > 0 else scaled(found, -1)), (form, found))
        return found


class TestIsReduced(Checks):

    def test_all_small_forms_by_words(self):
        for form in forms_up_to(7):
            if form[0] > 0 and discriminant_of(form) < 0:
                self.assertIs(is_reduced(form), reduced_by_words(form), form)

    def test_edges(self):
        for form, expected in (
            ((1, 0, 1), True), ((1, 1, 1), True), ((1, -1, 1), False), ((2, 2, 3), True), ((2, -2, 3), False),
            ((2, 1, 2), True), ((2, -1, 2), False), ((2, -1, 3), True), ((3, 1, 2), False), ((2, 3, 4), False),
            ((4, 4, 4), True), ((4, -4, 4), False), ((2, 0, 2), True), ((LIMIT, LIMIT, LIMIT), True),
            ((LIMIT, 1 - LIMIT, LIMIT), False), ((LIMIT - 1, 2 - LIMIT, LIMIT), True),
            ((LIMIT - 1, 1 - LIMIT, LIMIT), False),
        ):
            self.assertIs(is_reduced(form), expected, form)


class TestReduceDefinite(Checks):

    def test_written_out(self):
        self.assertEqual(reduce_definite((1, 1, 6)), ((1, 1, 6), UNIT))
        self.assertEqual(reduce_definite((-1, -1, -6)), ((-1, -1, -6), UNIT))
        for form, found in (
            ((6, 1, 1), (1, 1, 6)), ((2, -2, 3), (2, 2, 3)), ((2, -1, 2), (2, 1, 2)), ((2, 5, 5), (2, 1, 2)),
            ((-2, 1, -2), (-2, -1, -2)), ((-2, 2, -3), (-2, -2, -3)), ((-6, 1, -1), (-1, -1, -6)),
            ((3, -3, 3), (3, 3, 3)), ((10, 14, 5), (1, 0, 1)), ((13, 36, 25), (1, 0, 1)),
        ):
            self.assertEqual(self.check_reduced(form), found, form)

    def test_all_small_forms(self):
        for form in forms_up_to(8):
            if discriminant_of(form) < 0:
                self.check_reduced(form)

    def test_the_reduced_form_is_the_same_after_small_changes(self):
        changes = matrices_up_to(2, 1)
        for form in forms_up_to(3):
            if discriminant_of(form) < 0:
                found = reduce_definite(form)[0]
                for m in changes:
                    self.assertEqual(reduce_definite(form_behind(form, m))[0], found, (form, m))

    def test_reduced_forms_lead_to_themselves(self):
        for d in range(-400, 0):
            for form in reduced_forms_by_trying(d):
                self.assertEqual(reduce_definite(form), (form, UNIT))
                self.assertEqual(reduce_definite(scaled(form, -1)), (scaled(form, -1), UNIT))

    def test_the_reduced_form_is_the_same_after_drawn_changes(self):
        source = random.Random(41)
        for d in range(-300, 0, 7):
            for form in reduced_forms_by_trying(d):
                for steps in (1, 3, 10, 40):
                    other = form_behind(form, drawn_change(source, steps, 20))
                    self.assertEqual(self.check_reduced(other), form)
                    self.assertEqual(self.check_reduced(scaled(other, -1)), scaled(form, -1))

    def test_at_the_bounds(self):
        source = random.Random(42)
        for d in (-10 ** 6, -999999, -999983 - 4 * 5, -999996):
            for form in source.sample(reduced_forms_by_trying(d), 20):
                for _ in range(5):
                    other = drawn_great_form(source, form, LIMIT)
                    self.assertEqual(self.check_reduced(other), form)
                    self.assertEqual(self.check_reduced(scaled(other, -1)), scaled(form, -1))

    def test_many_steps(self):
        # A long chain of small quotients, and a single great one.
        form = (1, 1, 1)
        for _ in range(60):
            form = form_behind(form, (2, 1, 1, 1))
        self.assertEqual(self.check_reduced(form), (1, 1, 1))
        great = 10 ** 10
        self.assertEqual(self.check_reduced((1, 2 * great, great * great + 5)), (1, 0, 5))
        self.assertEqual(self.check_reduced((great * great + 5, -2 * great, 1)), (1, 0, 5))


class TestSelfChanges(Checks):

    def check(self, form):
        found = self_changes(form)
        self.assertIs(type(found), list)
        for m in found:
            self.assertIs(type(m), tuple)
            self.assertEqual([type(number) for number in m], [int] * 4)
        return found

    def test_all_small_reduced_forms_by_trying_all(self):
        # A self-change of a reduced form has numbers from -1 to 1.
        changes = matrices_up_to(2, 1)
        for d in range(-150, 0):
            for form in reduced_forms_by_trying(d):
                expected = [m for m in changes if form_behind(form, m) == form]
                self.assertEqual(sorted(self.check(form)), expected, form)

    def test_their_number(self):
        for form, many in (
            ((1, 0, 1), 4), ((1, 1, 1), 6), ((5, 0, 5), 4), ((7, 7, 7), 6), ((1, 0, 2), 2), ((2, 1, 2), 2),
            ((2, 2, 3), 2), ((1, 1, 2), 2), ((3, 0, 3), 4), ((LIMIT, 0, LIMIT), 4), ((LIMIT, LIMIT, LIMIT), 6),
            ((LIMIT, 1, LIMIT), 2), ((LIMIT, 0, LIMIT + 1), 2),
        ):
            found = self.check(form)
            self.assertEqual(len(found), many, form)
            self.assertEqual(len(set(found)), many, form)
            for m in found:
                self.assertEqual(determinant(m), 1)
                self.assertEqual(act(form, m), form)

    def test_lists_are_new(self):
        first = self_changes((1, 0, 1))
        first.append(None)
        self.assertEqual(len(self_changes((1, 0, 1))), 4)


class TestPositiveClasses(Checks):

    def test_written_out(self):
        self.assertEqual(positive_classes(-3), [(1, 1, 1)])
        self.assertEqual(positive_classes(-4), [(1, 0, 1)])
        self.assertEqual(positive_classes(-12), [(1, 0, 3)])
        self.assertEqual(positive_classes(-15), [(1, 1, 4), (2, 1, 2)])
        self.assertEqual(positive_classes(-23), [(1, 1, 6), (2, -1, 3), (2, 1, 3)])

    def test_none(self):
        for d in (-1, -2, -5, -6, -9, -10, -3997, -3998):
            self.assertEqual(positive_classes(d), [])

    def test_all_discriminants_by_trying_all(self):
        for d in range(-4000, 0):
            found = positive_classes(d)
            self.assertIs(type(found), list)
            self.assertEqual(found, [form for form in reduced_forms_by_trying(d) if math.gcd(*form) == 1], d)

    def test_class_numbers(self):
        for d, many in CLASS_NUMBERS:
            self.assertEqual(len(positive_classes(d)), many, d)

    def test_kinds_and_beyond_the_bound(self):
        for d in (-4000, -4003, -9999, -100003):
            for form in positive_classes(d):
                self.assertIs(type(form), tuple)
                self.assertEqual([type(number) for number in form], [int] * 3)
                self.assertEqual(discriminant_of(form), d)

    def test_lists_are_new(self):
        positive_classes(-23).clear()
        self.assertEqual(len(positive_classes(-23)), 3)


if __name__ == "__main__":
    unittest.main()
