"""Points 5.1 to 5.3, and the interface of wholeconic/classes.py."""

import math
import random
import unittest

from tests.drawing import (
    discriminant_of, drawn_change, drawn_great_form, form_behind, is_whole_square, value_of)
from wholeconic.alike import canonical_form
from wholeconic.classes import class_power, classes, compose, opposite, principal

LIMIT = 10 ** 10
SMALL = [d for d in range(-170, 171) if d % 4 in (0, 1) and not is_whole_square(d)]
# Class numbers of some positive discriminants, with forms led to one another by determinant 1 alone.
CLASS_NUMBERS = (
    (5, 1), (8, 1), (12, 2), (13, 1), (17, 1), (20, 1), (21, 2), (24, 2), (28, 2), (32, 2), (33, 2), (40, 2),
    (44, 2), (60, 4), (65, 2), (85, 2), (145, 4), (229, 3), (257, 3), (316, 6), (401, 5), (520, 4), (577, 7))


def classes_by_trying(d):
    """Return the ascending list of the canonical forms of many forms, which cover all classes of d > 0."""
    root = math.isqrt(d)
    found = set()
    for b in range(-root, root + 1):
        if (b * b - d) % 4 == 0:
            for a in range(-root, root + 1):
                if a != 0 and (b * b - d) // 4 % a == 0:
                    form = (a, b, (b * b - d) // 4 // a)
                    if math.gcd(*form) == 1:
                        found.add(canonical_form(form)[0])
    return sorted(found)


class Checks(unittest.TestCase):

    def check_form(self, form, d):
        self.assertIs(type(form), tuple)
        self.assertEqual([type(number) for number in form], [int] * 3)
        self.assertEqual(discriminant_of(form), d)

    def check_rows(self, form, other, answer, points):
        """Check the kinds of what compose tells, and that the values multiply (point 5.3)."""
        self.assertIs(type(answer), tuple)
        found, rows = answer
        self.check_form(found, discriminant_of(form))
        self.assertEqual(canonical_form(found)[0], found)
        self.assertEqual([type(rows), len(rows)], [tuple, 2])
        for row in rows:
            self.assertEqual([type(row)] + [type(number) for number in row], [tuple] + [int] * 4)
        for x, y, z, w in points:
            products = (x * z, x * w, y * z, y * w)
            at = [sum(number * product for number, product in zip(row, products)) for row in rows]
            self.assertEqual(value_of(found, *at), value_of(form, x, y) * value_of(other, z, w), (form, other))
        return found


class TestClasses(Checks):

    def test_written_out(self):
        for d, expected in (
            (-3, [(1, 1, 1)]), (-23, [(1, 1, 6), (2, -1, 3), (2, 1, 3)]), (-4, [(1, 0, 1)]), (5, [(-1, 1, 1)]),
            (8, [(-1, 2, 1)]), (12, [(-2, 2, 1), (-1, 2, 2)]), (40, [(-3, 2, 3), (-1, 6, 1)]),
            (-20, [(1, 0, 5), (2, 2, 3)]), (21, [(-3, 3, 1), (-1, 3, 3)]),
        ):
            self.assertEqual(classes(d), expected, d)

    def test_class_numbers(self):
        for d, many in CLASS_NUMBERS:
            self.assertEqual(len(classes(d)), many, d)

    def test_small_discriminants_by_trying_all(self):
        for d in SMALL:
            if d > 0:
                self.assertEqual(classes(d), classes_by_trying(d), d)

    def test_all_discriminants(self):
        for d in range(-4000, 4001):
            if d % 4 in (0, 1) and not is_whole_square(d):
                found = classes(d)
                self.assertIs(type(found), list)
                self.assertEqual(found, sorted(set(found)))
                self.assertIn(principal(d), found)
                for form in found:
                    self.check_form(form, d)
                    self.assertEqual(math.gcd(*form), 1)
                    self.assertTrue(d > 0 or form[0] > 0)

    def test_all_forms_are_canonical_at_the_bound(self):
        for d in list(range(-4000, -3960)) + list(range(3960, 4001)):
            if d % 4 in (0, 1) and not is_whole_square(d):
                for form in classes(d):
                    self.assertEqual(canonical_form(form)[0], form)
                if d > 0:
                    self.assertEqual(classes(d), classes_by_trying(d), d)

    def test_numbers_that_are_no_discriminants(self):
        for d in (-1, -2, -5, -3998, 2, 3, 6, 3998, 3999):
            self.assertEqual(classes(d), [])

    def test_lists_are_new(self):
        for d in (-23, 40):
            many = len(classes(d))
            classes(d).clear()
            self.assertEqual(len(classes(d)), many)


class TestPrincipalAndOpposite(Checks):

    def test_written_out(self):
        for d, expected in (
            (-3, (1, 1, 1)), (-4, (1, 0, 1)), (-23, (1, 1, 6)), (-999999, (1, 1, 250000)), (-10 ** 6, (1, 0, 250000)),
            (5, (-1, 1, 1)), (12, (-2, 2, 1)), (40, (-1, 6, 1)),
        ):
            self.assertEqual(principal(d), expected)
        for form, expected in (
            ((2, 1, 3), (2, -1, 3)), ((2, -1, 3), (2, 1, 3)), ((1, 1, 6), (1, 1, 6)), ((6, 1, 1), (1, 1, 6)),
            ((2, 2, 3), (2, 2, 3)), ((2, 1, 2), (2, 1, 2)), ((-3, 4, 2), (-3, 2, 3)),
        ):
            self.assertEqual(opposite(form), expected, form)

    def test_small_discriminants(self):
        for d in SMALL:
            one = principal(d)
            self.check_form(one, d)
            self.assertEqual(one, canonical_form((1, d % 2, (d % 2 - d) // 4))[0])
            self.assertEqual(opposite(one), one)
            for form in classes(d):
                self.check_form(opposite(form), d)
                self.assertEqual(opposite(form), canonical_form((form[0], -form[1], form[2]))[0])
                self.assertEqual(opposite(opposite(form)), form)

    def test_at_the_bounds(self):
        for d in (9996, 9997, 9769, -10 ** 6, -999983):
            form = principal(d)
            self.check_form(form, d)
            source = random.Random(81)
            other = drawn_great_form(source, form, LIMIT)
            self.assertEqual(opposite(other), form)


class TestCompose(Checks):

    def points(self, source, many=3):
        return [[source.randint(-9, 9) for _ in range(4)] for _ in range(many)]

    def test_written_out(self):
        for form, other, found in (
            ((2, 1, 3), (2, 1, 3), (2, -1, 3)), ((2, 1, 3), (2, -1, 3), (1, 1, 6)), ((2, 2, 3), (2, 2, 3), (1, 0, 5)),
            ((1, 1, 6), (2, 1, 3), (2, 1, 3)), ((1, 0, 1), (1, 0, 1), (1, 0, 1)), ((-1, 2, 2), (-1, 2, 2), (-2, 2, 1)),
            ((-3, 4, 2), (-3, 4, 2), (-1, 6, 1)), ((1, 1, -1), (1, 1, -1), (-1, 1, 1)),
            ((1, 0, 2), (2, 0, 1), (1, 0, 2)),
        ):
            answer = compose(form, other)
            self.assertEqual(answer[0], found, (form, other))
            self.check_rows(form, other, answer, [(1, 0, 0, 1), (2, 3, -5, 7)])

    def test_all_pairs_of_small_discriminants(self):
        source = random.Random(82)
        for d in SMALL:
            found = classes(d)
            for form in found:
                for other in found:
                    answer = compose(form, other)
                    self.assertIn(self.check_rows(form, other, answer, self.points(source)), found)
                    self.assertEqual(answer[0], compose(other, form)[0])

    def test_a_commutative_group(self):
        for d in SMALL + [-311, -420, -671, 229, 316, 401, 520, 577, 904]:
            found = classes(d)
            one = principal(d)
            table = {(form, other): compose(form, other)[0] for form in found for other in found}
            for form in found:
                self.assertEqual(table[(one, form)], form)
                self.assertEqual(table[(form, opposite(form))], one)
                self.assertEqual(sorted(table[(form, other)] for other in found), found)
            for form, other in table:
                for third in found[:12]:
                    self.assertEqual(
                        table[(table[(form, other)], third)], table[(form, table[(other, third)])], (d, form, other))

    def test_united_forms_by_words(self):
        for d in SMALL:
            for middle in range(-9, 10):
                if (middle * middle - d) % 4 != 0:
                    continue
                product = (middle * middle - d) // 4
                numbers = [a for a in range(-12, 13) if a != 0 and product % a == 0 and (d > 0 or a > 0)]
                for a in numbers:
                    for a2 in numbers:
                        if math.gcd(a, a2) == 1 and product % (a * a2) == 0:
                            last = product // (a * a2)
                            form, other = (a, middle, a2 * last), (a2, middle, a * last)
                            if math.gcd(*form) == math.gcd(*other) == 1:
                                self.assertEqual(
                                    compose(form, other)[0], canonical_form((a * a2, middle, last))[0], (form, other))

    def test_the_same_for_alike_forms(self):
        source = random.Random(83)
        for d in (-23, -47, -84, -420, 12, 40, 229, 520):
            found = classes(d)
            for form in found:
                other = source.choice(found)
                expected = compose(form, other)[0]
                for steps in (2, 5, 12):
                    one = form_behind(form, drawn_change(source, steps, 7))
                    two = form_behind(other, drawn_change(source, steps, 7))
                    answer = compose(one, two)
                    self.assertEqual(self.check_rows(one, two, answer, self.points(source)), expected)

    def test_first_numbers_that_share_measures(self):
        source = random.Random(84)
        for form, other in (
            ((6, 1, 2), (6, 1, 2)), ((6, 5, 3), (6, -5, 3)), ((30, 23, 5), (30, -23, 5)), ((30, 23, 5), (30, 23, 5)),
            ((2, 2, 11), (6, 6, 5)), ((10, 10, 13), (6, 6, 19)), ((-6, 2, 1), (-6, 2, 1)), ((4, 2, -5), (-4, 2, 5)),
        ):
            self.assertEqual(discriminant_of(form), discriminant_of(other))
            self.check_rows(form, other, compose(form, other), self.points(source))

    def test_at_the_bounds(self):
        source = random.Random(85)
        for d, forms in (
            (-999999, [(1, 1, 250000), (2, 1, 125000), (4, 1, 62500), (5, 1, 50000), (8, -1, 31250)]),
            (-10 ** 6, [(1, 0, 250000), (4, 4, 62501), (16, 0, 15625)]), (-999996, [(1, 0, 249999), (3, 0, 83333)]),
            (9996, classes(9996)), (9769, classes(9769)), (9997, classes(9997)), (9601, classes(9601)),
        ):
            for form in forms[:6]:
                for other in forms[:6]:
                    one, two = drawn_great_form(source, form, LIMIT), drawn_great_form(source, other, LIMIT)
                    answer = compose(one, two)
                    self.check_rows(one, two, answer, self.points(source))
                    self.assertEqual(discriminant_of(form), d)
                    self.assertEqual(answer[0], compose(form, other)[0])
                    self.assertEqual(compose(answer[0], opposite(two))[0], canonical_form(one)[0])

    def test_first_numbers_with_many_measures(self):
        # The nine least primes measure both the first and the last number.
        number = math.prod((2, 3, 5, 7, 11, 13, 17, 19, 23))
        form = (number, 1, number * 7)
        self.check_rows(form, form, compose(form, form), [(1, 2, 3, 4), (-5, 1, 0, 2)])


class TestClassPower(Checks):

    def test_small_discriminants_by_composing(self):
        for d in SMALL[::2] + [-199, -420, 229, 401, 520]:
            for form in classes(d)[:8]:
                forth = back = principal(d)
                for many in range(0, 9):
                    self.assertEqual(class_power(form, many), forth, (form, many))
                    self.assertEqual(class_power(form, -many), back, (form, -many))
                    forth, back = compose(forth, form)[0], compose(back, opposite(form))[0]

    def test_at_the_bound(self):
        for form in ((2, 1, 6), (3, 1, 83333), (2, 1, -1221), (10, 1, -244), (3, 1, 4)):
            power = principal(discriminant_of(form))
            for many in range(1, 103):
                power = compose(power, form)[0]
                if many in (63, 64, 99, 100, 101, 102):
                    self.assertEqual(class_power(form, many), power)
                    self.assertEqual(class_power(form, -many), opposite(power))

    def test_kinds_and_forms_that_are_not_reduced(self):
        self.check_form(class_power((6, 1, 1), 1), -23)
        self.assertEqual(class_power((3, 7, 6), 1), (2, -1, 3))
        self.assertEqual(class_power((3, 7, 6), 3), (1, 1, 6))
        self.assertEqual(class_power((3, 7, 6), -1), (2, 1, 3))
        self.assertEqual(class_power((3, 7, 6), 0), (1, 1, 6))


if __name__ == "__main__":
    unittest.main()
