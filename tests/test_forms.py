"""Points 3.1 and 3.2, and the interface of wholeconic/forms.py."""

import math
import random
import unittest

from tests.drawing import (
    discriminant_of, drawn_change, form_behind, forms_up_to, is_whole_square, kind_of, matrices_up_to, value_of)
from wholeconic.forms import act, content, discriminant, divided, kind, point_apart, scaled, unit_change, worth
from wholeconic.matrices import UNIT, apply, multiply, raised

GREAT = 10 ** 3000 - 1


class Checks(unittest.TestCase):

    def check_form(self, form):
        self.assertIs(type(form), tuple)
        self.assertEqual([type(number) for number in form], [int] * 3)


class TestNumbersOfForms(Checks):

    def test_written_out(self):
        self.assertEqual(discriminant((1, 2, 3)), -8)
        self.assertEqual(discriminant((1, -3, 1)), 5)
        self.assertEqual(content((6, -9, 15)), 3)
        self.assertEqual(content((0, 0, -7)), 7)
        self.assertEqual(content((0, 0, 0)), 0)
        self.assertEqual(worth((1, 2, 3), (4, -5)), 16 - 40 + 75)
        self.assertEqual(scaled((1, -2, 3), -4), (-4, 8, -12))
        self.assertEqual(scaled((1, -2, 3), 0), (0, 0, 0))
        self.assertEqual(divided((6, -9, 15), 3), (2, -3, 5))
        self.assertEqual(divided((6, -9, 15), -3), (-2, 3, -5))
        self.assertEqual(divided((0, 0, 0), 5), (0, 0, 0))

    def test_all_small_forms(self):
        for form in forms_up_to(6):
            self.assertEqual(discriminant(form), discriminant_of(form))
            self.assertEqual(content(form), math.gcd(*form))
            self.assertEqual(kind(form), kind_of(form))

    def test_values(self):
        for form in forms_up_to(3):
            for x in range(-3, 4):
                for y in range(-3, 4):
                    self.assertEqual(worth(form, (x, y)), value_of(form, x, y))

    def test_scaled_and_divided(self):
        for form in forms_up_to(3):
            for number in (-7, -1, 1, 2, 10):
                self.check_form(scaled(form, number))
                self.check_form(divided(scaled(form, number), number))
                self.assertEqual(worth(scaled(form, number), (3, -2)), number * value_of(form, 3, -2))
                self.assertEqual(divided(scaled(form, number), number), form)

    def test_kinds(self):
        for one in (discriminant((1, 2, 3)), content((2, 4, 6)), worth((1, 2, 3), (4, 5))):
            self.assertIs(type(one), int)
        self.check_form(act((1, 2, 3), (1, 1, 0, 1)))

    def test_great_numbers(self):
        self.assertEqual(discriminant((10 ** 10, 10 ** 10 + 1, 10 ** 10)), (10 ** 10 + 1) ** 2 - 4 * 10 ** 20)
        form = (GREAT, -GREAT, 2 * GREAT)
        self.assertEqual(content(form), GREAT)
        self.assertEqual(divided(form, GREAT), (1, -1, 2))
        self.assertEqual(scaled((1, -1, 2), GREAT), form)
        self.assertEqual(worth((1, 1, -1), (GREAT, GREAT)), GREAT * GREAT)


class TestKind(Checks):

    def test_written_out(self):
        for form, word in (
            ((1, 0, 1), "definite"), ((-1, 1, -1), "definite"), ((-2, 0, -2), "definite"), ((0, 0, 0), "flat"),
            ((1, 2, 1), "flat"), ((-4, 4, -1), "flat"), ((0, 0, -3), "flat"), ((5, 0, 0), "flat"),
            ((0, 1, 0), "split"), ((0, -1, 5), "split"), ((1, 0, -1), "split"), ((-1, 0, 4), "split"),
            ((1, 0, -2), "indefinite"), ((-1, 1, 1), "indefinite"), ((2, 0, -4), "indefinite"),
        ):
            self.assertEqual(kind(form), word, form)

    def test_great_numbers(self):
        self.assertEqual(kind((10 ** 10, 1, 10 ** 10)), "definite")
        self.assertEqual(kind((10 ** 10, 2 * 10 ** 10, 10 ** 10)), "flat")
        self.assertEqual(kind((0, 999, -10 ** 10)), "split")
        self.assertEqual(kind((GREAT * GREAT, 0, -1)), "split")
        self.assertEqual(kind((GREAT * GREAT + 1, 0, -1)), "indefinite")
        self.assertEqual(kind((GREAT * GREAT - 1, 0, -1)), "indefinite")


class TestAct(Checks):

    def test_written_out(self):
        self.assertEqual(act((1, 0, 1), (1, 1, 0, 1)), (1, 2, 2))
        self.assertEqual(act((1, 2, 3), (0, -1, 1, 0)), (3, -2, 1))
        self.assertEqual(act((1, 2, 3), (1, 0, 0, -1)), (1, -2, 3))
        self.assertEqual(act((1, 2, 3), (1, 0, 5, 1)), (86, 32, 3))
        self.assertEqual(act((1, 2, 3), (0, 0, 0, 0)), (0, 0, 0))
        self.assertEqual(act((0, 0, 0), (1, 2, 3, 4)), (0, 0, 0))

    def test_values_are_those_of_the_carried_points(self):
        source = random.Random(33)
        for _ in range(400):
            form = tuple(source.randint(-20, 20) for _ in range(3))
            m = tuple(source.randint(-9, 9) for _ in range(4))
            for point in ((1, 0), (0, 1), (1, 1), (2, -7)):
                self.assertEqual(worth(act(form, m), point), worth(form, apply(m, point)))

    def test_all_small_forms(self):
        changes = matrices_up_to(1, 1) + matrices_up_to(1, -1)
        for form in forms_up_to(3):
            self.assertEqual(act(form, UNIT), form)
            for m in changes:
                self.assertEqual(act(form, m), form_behind(form, m))
                self.assertEqual(discriminant(act(form, m)), discriminant(form))
                self.assertEqual(content(act(form, m)), content(form))

    def test_one_change_behind_another(self):
        source = random.Random(34)
        for _ in range(300):
            form = tuple(source.randint(-20, 20) for _ in range(3))
            m, n = drawn_change(source, 4, 5), drawn_change(source, 4, 5)
            self.assertEqual(act(act(form, m), n), act(form, multiply(m, n)))

    def test_great_numbers(self):
        form = (10 ** 10, -10 ** 10 + 1, 10 ** 10 - 3)
        m = (GREAT, GREAT + 1, GREAT - 1, GREAT)
        self.check_form(act(form, m))
        self.assertEqual(act(form, m), form_behind(form, m))
        self.assertEqual(act(form, (1, GREAT, 0, 1)), form_behind(form, (1, GREAT, 0, 1)))


class TestUnitChange(Checks):

    def test_small_forms_and_units(self):
        for form in forms_up_to(4):
            if content(form) == 1:
                d = discriminant_of(form)
                for u in range(-3, 4):
                    if is_whole_square(4 + d * u * u):
                        t = math.isqrt(4 + d * u * u)
                        for sign in (1, -1):
                            self.assertEqual(form_behind(form, unit_change(form, sign * t, u)), form)

    def test_unit(self):
        self.assertEqual(unit_change((1, 1, 6), 2, 0), UNIT)
        self.assertEqual(unit_change((1, 0, -2), 6, 2), (3, 4, 2, 3))
        self.assertEqual(unit_change((1, 1, 1), 1, 1), raised((0, -1, 1, 1), 1))


class TestPointApart(Checks):

    def test_small_forms(self):
        for form in forms_up_to(6):
            if content(form) == 1:
                for number in (1, -1, 2, 3, -6, 30, 210, -2310, 4 * 9 * 35):
                    x, y = point_apart(form, number)
                    self.assertEqual(math.gcd(x, y), 1)
                    self.assertEqual(math.gcd(value_of(form, x, y), number), 1, (form, number))


if __name__ == "__main__":
    unittest.main()
