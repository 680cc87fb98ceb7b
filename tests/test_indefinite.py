"""Points 3.4, 3.6 and 4.2, and the interface of wholeconic/indefinite.py."""

import math
import random
import unittest

from tests.drawing import (
    discriminant_of, drawn_change, drawn_great_form, form_behind, forms_up_to, is_whole_square, kind_of,
    matrices_up_to)
from wholeconic import indefinite
from wholeconic.forms import act, scaled
from wholeconic.indefinite import (
    canonical, cycle, is_reduced, least_unit, reduce_indefinite, self_change, step_of)
from wholeconic.matrices import UNIT, determinant, inverse, multiply, negative, raised

LIMIT = 10 ** 10
GREAT_DISCRIMINANTS = (10 ** 4 - 3, 10 ** 4 - 4, 10 ** 4 - 7, 9949, 9241, 9996, 9601, 9769, 9900)


def below_root(number, d):
    """Return True if a number is below the root of d."""
    return number < 0 or number * number < d


def reduced_by_words(form):
    a, b, _ = form
    d = discriminant_of(form)
    return 0 < b and below_root(b, d) and not below_root(2 * abs(a) + b, d) and below_root(2 * abs(a) - b, d)


def discriminants(first, last):
    return [d for d in range(first, last + 1) if d % 4 in (0, 1) and not is_whole_square(d)]


def reduced_forms_by_trying(d):
    """Return the ascending list of all reduced forms, of any content."""
    root = math.isqrt(d)
    found = []
    for a in range(-root, root + 1):
        for b in range(1, root + 1):
            if a != 0 and (b * b - d) % (4 * a) == 0:
                form = (a, b, (b * b - d) // (4 * a))
                if reduced_by_words(form):
                    found.append(form)
    return found


def neighbour_by_trying(form):
    """Return (n, neighbour) by the words of point 3.4, and check that there is one n alone."""
    found = []
    reach = math.isqrt(discriminant_of(form)) + 2
    for n in range(-reach, reach + 1):
        other = form_behind(form, (0, -1, 1, n))
        if reduced_by_words(other):
            found.append((n, other))
    assert len(found) == 1, form
    return found[0]


class Checks(unittest.TestCase):

    def check_pair(self, form, answer):
        """Check that the answer is (a form, a matrix of determinant 1 that leads to it), and return the form."""
        self.assertIs(type(answer), tuple)
        found, m = answer
        self.assertEqual([type(found), type(m)], [tuple, tuple])
        self.assertEqual([type(number) for number in found + m], [int] * 7)
        self.assertEqual(determinant(m), 1)
        self.assertEqual(act(form, m), found)
        self.assertTrue(reduced_by_words(found), (form, found))
        return found


class TestIsReduced(Checks):

    def test_all_small_forms_by_words(self):
        for form in forms_up_to(9):
            if kind_of(form) == "indefinite":
                self.assertIs(is_reduced(form), reduced_by_words(form), form)

    def test_written_out(self):
        for form, expected in (
            ((1, 1, -1), True), ((-1, 1, 1), True), ((1, -1, -1), False), ((1, 0, -2), False), ((1, 2, -1), True),
            ((-1, 2, 1), True), ((2, 0, -1), False), ((1, 3, 1), False), ((3, 4, -3), True), ((5, 5, -5), True),
        ):
            self.assertIs(is_reduced(form), expected, form)

    def test_all_forms_near_the_bounds_of_the_words(self):
        for d in (5, 8, 12, 13, 60, 61, 404, 9997, 9996):
            root = math.isqrt(d)
            for b in range(-root - 3, root + 4):
                for a in range(-root - 3, root + 4):
                    if a != 0 and (b * b - d) % (4 * a) == 0:
                        form = (a, b, (b * b - d) // (4 * a))
                        self.assertIs(is_reduced(form), reduced_by_words(form), form)


class TestReduce(Checks):

    def test_all_small_forms(self):
        for form in forms_up_to(9):
            if kind_of(form) == "indefinite":
                self.check_pair(form, reduce_indefinite(form))

    def test_reduced_forms_are_left(self):
        for d in discriminants(5, 300):
            for form in reduced_forms_by_trying(d):
                self.assertEqual(reduce_indefinite(form), (form, UNIT))

    def test_at_the_bounds(self):
        source = random.Random(51)
        for d in GREAT_DISCRIMINANTS:
            forms = reduced_forms_by_trying(d)
            for form in source.sample(forms, min(12, len(forms))):
                other = drawn_great_form(source, form, LIMIT)
                self.check_pair(other, reduce_indefinite(other))

    def test_many_steps(self):
        form = (1, 1, -1)
        for _ in range(40):
            form = form_behind(form, (2, 5, 1, 3))
        self.check_pair(form, reduce_indefinite(form))
        great = 10 ** 10
        form = (1, 2 * great, great * great - 2)
        self.check_pair(form, reduce_indefinite(form))
        form = (great * great - 2, 2 * great, 1)
        self.check_pair(form, reduce_indefinite(form))


class TestSteps(Checks):

    def test_all_reduced_forms_by_trying_all(self):
        for d in discriminants(5, 200):
            for form in reduced_forms_by_trying(d):
                n, other = neighbour_by_trying(form)
                self.assertEqual(step_of(form), (0, -1, 1, n), form)
                self.assertEqual(act(form, step_of(form)), other)

    def test_kinds(self):
        m = step_of((1, 1, -1))
        self.assertIs(type(m), tuple)
        self.assertEqual([type(number) for number in m], [int] * 4)

    def test_at_the_bound(self):
        for d in GREAT_DISCRIMINANTS:
            for form in reduced_forms_by_trying(d)[::9]:
                self.assertEqual(step_of(form), (0, -1, 1, neighbour_by_trying(form)[0]))


class TestCycle(Checks):

    def cycle_by_trying(self, form):
        found = [form]
        other = neighbour_by_trying(form)[1]
        while other != form:
            found.append(other)
            other = neighbour_by_trying(other)[1]
        return found

    def check(self, form):
        """Check a cycle, and return the list of its forms."""
        pairs = cycle(form)
        self.assertIs(type(pairs), list)
        self.assertEqual(pairs[0], (form, UNIT))
        forms = [self.check_pair(form, pair) for pair in pairs]
        self.assertEqual(len(set(forms)), len(forms))
        for one, other in zip(forms, forms[1:] + forms[:1]):
            self.assertEqual(act(one, step_of(one)), other)
        for (_, m), (_, n) in zip(pairs, pairs[1:]):
            self.assertEqual(multiply(inverse(m), n)[:3], (0, -1, 1))
        return forms

    def test_written_out(self):
        self.assertEqual(cycle((1, 1, -1)), [((1, 1, -1), UNIT), ((-1, 1, 1), (0, -1, 1, -1))])
        self.assertEqual(self.check((-1, 2, 1)), [(-1, 2, 1), (1, 2, -1)])
        self.assertEqual(self.check((2, 2, -2)), [(2, 2, -2), (-2, 2, 2)])

    def test_all_small_ones_by_trying_all(self):
        for d in discriminants(5, 100):
            for form in reduced_forms_by_trying(d):
                self.assertEqual(self.check(form), self.cycle_by_trying(form))

    def test_the_reduced_forms_are_parted_into_cycles(self):
        for d in discriminants(101, 400):
            left = reduced_forms_by_trying(d)
            while left:
                forms = self.check(left[0])
                self.assertEqual(len(forms) % 2, 0)
                self.assertLessEqual(set(forms), set(left))
                left = [form for form in left if form not in forms]

    def test_at_the_bound(self):
        for d in GREAT_DISCRIMINANTS:
            for form in reduced_forms_by_trying(d)[::29]:
                self.check(form)

    def test_lists_are_new(self):
        cycle((1, 1, -1)).clear()
        self.assertEqual(len(cycle((1, 1, -1))), 2)


class TestCanonical(Checks):

    def test_written_out(self):
        for form, found in (
            ((1, 1, -1), (-1, 1, 1)), ((1, 0, -2), (-1, 2, 1)), ((1, 0, -3), (-2, 2, 1)), ((-1, 0, 3), (-1, 2, 2)),
            ((3, 0, -6), (-3, 6, 3)), ((2, 4, -2), (-2, 4, 2)),
        ):
            self.assertEqual(canonical(form)[0], found, form)

    def test_the_least_of_the_cycle(self):
        for d in discriminants(5, 250):
            for form in reduced_forms_by_trying(d):
                found = self.check_pair(form, canonical(form))
                self.assertEqual(found, min(other for other, _ in cycle(form)))
                self.assertEqual(canonical(found), (found, UNIT))

    def test_all_small_forms_and_changes(self):
        changes = matrices_up_to(2, 1)
        for form in forms_up_to(3):
            if kind_of(form) == "indefinite":
                found = self.check_pair(form, canonical(form))
                for m in changes:
                    self.assertEqual(canonical(form_behind(form, m))[0], found, (form, m))

    def test_the_same_after_drawn_changes(self):
        source = random.Random(52)
        for d in discriminants(5, 800)[::11]:
            for form in reduced_forms_by_trying(d)[::3]:
                found = canonical(form)[0]
                for steps in (1, 4, 15):
                    other = form_behind(form, drawn_change(source, steps, 30))
                    self.assertEqual(self.check_pair(other, canonical(other)), found)

    def test_at_the_bounds(self):
        source = random.Random(53)
        for d in GREAT_DISCRIMINANTS:
            forms = reduced_forms_by_trying(d)
            for form in source.sample(forms, min(12, len(forms))):
                other = drawn_great_form(source, form, LIMIT)
                self.assertEqual(self.check_pair(other, canonical(other)), canonical(form)[0])

    def test_beyond_the_bound(self):
        for form in ((1, 0, -99998), (7, 1, -3571), (10 ** 40, 10 ** 40 + 1, -1)):
            if form[0] < 100:
                self.check_pair(form, canonical(form))
            else:
                self.check_pair(form, reduce_indefinite(form))


class TestLeastUnit(Checks):

    def test_written_out(self):
        for d, expected in (
            (5, (3, 1)), (8, (6, 2)), (12, (4, 1)), (13, (11, 3)), (17, (66, 16)), (20, (18, 4)), (21, (5, 1)),
            (24, (10, 2)), (28, (16, 3)), (29, (27, 5)), (32, (6, 1)), (45, (7, 1)), (52, (1298, 180)),
            (61, (1523, 195)), (244, (3532638098, 226153980)),
        ):
            self.assertEqual(least_unit(d), expected, d)

    def test_by_trying_all(self):
        for d in discriminants(2, 10 ** 4):
            t, u = least_unit(d)
            for number in range(1, min(u, 400)):
                self.assertFalse(is_whole_square(4 + d * number * number), d)

    def test_all_discriminants(self):
        for d in discriminants(2, 10 ** 4):
            answer = least_unit(d)
            self.assertEqual([type(answer)] + [type(number) for number in answer], [tuple, int, int])
            t, u = answer
            self.assertTrue(t > 0 and u > 0)
            self.assertEqual(t * t - d * u * u, 4)

    def test_it_is_the_turn_of_the_cycle(self):
        for d in discriminants(5, 900) + discriminants(9500, 10 ** 4)[::5]:
            form = canonical((1, d % 2, (d % 2 - d) // 4))[0]
            last, m = cycle(form)[-1]
            turn = multiply(m, step_of(last))
            self.assertEqual(act(form, turn), form)
            self.assertEqual(least_unit(d), (abs(turn[0] + turn[3]), abs(turn[2] // form[0])), d)

    def test_great_units(self):
        for d, digits in ((9601, 168), (9241, 164), (9769, 163), (9949, 71)):
            t, u = least_unit(d)
            self.assertEqual(len(str(t)), digits)
            self.assertEqual(t * t - d * u * u, 4)

    def test_beyond_the_bound(self):
        for d in (10 ** 4 + 1, 10 ** 5 + 1, 10 ** 6 - 3):
            t, u = least_unit(d)
            self.assertEqual(t * t - d * u * u, 4)


class TestSelfChange(Checks):

    def check(self, form):
        m = self_change(form)
        self.assertEqual([type(m)] + [type(number) for number in m], [tuple, int, int, int, int])
        self.assertEqual(determinant(m), 1)
        self.assertEqual(act(form, m), form)
        g = math.gcd(*form)
        a, b, c = (number // g for number in form)
        t, u = least_unit(b * b - 4 * a * c)
        self.assertEqual(m, ((t - b * u) // 2, -c * u, a * u, (t + b * u) // 2))
        return m

    def test_written_out(self):
        self.assertEqual(self_change((1, 0, -2)), (3, 4, 2, 3))
        self.assertEqual(self_change((-1, 0, 2)), (3, -4, -2, 3))
        self.assertEqual(self_change((5, 0, -10)), (3, 4, 2, 3))
        self.assertEqual(self_change((1, 1, -1)), (1, 1, 1, 2))
        self.assertEqual(self_change((-3, -3, 3)), (2, -1, -1, 1))

    def test_small_forms(self):
        for form in forms_up_to(6):
            if kind_of(form) == "indefinite":
                self.check(form)

    def test_its_powers_and_their_negatives_are_all(self):
        changes = matrices_up_to(7, 1)
        for form in forms_up_to(2):
            if kind_of(form) == "indefinite":
                m = self_change(form)
                powers = [raised(m, many) for many in range(-9, 10)]
                powers = set(powers + [negative(power) for power in powers])
                for change in changes:
                    if form_behind(form, change) == form:
                        self.assertIn(change, powers, form)

    def test_contents(self):
        for form in ((1, 0, -3), (2, 1, -4), (-5, 3, 7)):
            for number in (2, 3, 10, -1, -6):
                m = self.check(scaled(form, number))
                self.assertEqual(m, self_change(form) if number > 0 else inverse(self_change(form)))

    def test_at_the_bounds(self):
        source = random.Random(54)
        for d in GREAT_DISCRIMINANTS:
            forms = reduced_forms_by_trying(d)
            for form in source.sample(forms, min(6, len(forms))):
                self.check(form)
                self.check(drawn_great_form(source, form, LIMIT))


class TestNames(Checks):

    def test_no_argument_is_modified(self):
        form = (3, 1, -5)
        for name in ("is_reduced", "reduce_indefinite", "canonical", "self_change"):
            self.assertEqual(getattr(indefinite, name)(form), getattr(indefinite, name)(form))
        self.assertEqual(form, (3, 1, -5))


if __name__ == "__main__":
    unittest.main()
