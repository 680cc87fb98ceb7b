"""Points 6.1 and 6.2: representations and settled points."""

import math
import random
import time
import unittest

from tests.drawing import discriminant_of, drawn_change, drawn_great_form, form_behind, forms_up_to, kind_of, value_of
from tests.searching import power_of
from wholeconic.alike import proper_change
from wholeconic.definite import self_changes
from wholeconic.indefinite import self_change
from wholeconic.matrices import apply, inverse, raised
from wholeconic.represent import (
    definite_points, first_points, is_represented, measures, orbit_points, rooted_forms, settle, size, split_points)

LIMIT = 10 ** 10
SQUARE = [(x, y) for x in range(-25, 26) for y in range(-25, 26)]


def nearest(point, m):
    """Return the settled point, found among plain powers of m that go on until sizes grow on both sides."""
    found = [point]
    for step in (m, inverse(m)):
        there = apply(step, point)
        while there[0] ** 2 + there[1] ** 2 <= found[-1][0] ** 2 + found[-1][1] ** 2:
            found.append(there)
            there = apply(step, there)
        found.reverse()
    return min(found, key=lambda p: (p[0] ** 2 + p[1] ** 2, p))


def values_in_square(form):
    """Return the dict of the values other than 0 of a form, each with the points of the square that have it."""
    found = {}
    for x, y in SQUARE:
        n = value_of(form, x, y)
        if n != 0:
            found.setdefault(n, []).append((x, y))
    return found


def sign_of(d, p):
    """Return 1, -1 or 0 by whether a discriminant is a square modulo a prime p that measures the values looked at."""
    if p == 2:
        return 0 if d % 2 == 0 else 1 if d % 8 == 1 else -1
    return 0 if d % p == 0 else 1 if any((x * x - d) % p == 0 for x in range(p)) else -1


class Checks(unittest.TestCase):

    def check_points(self, form, n, points):
        self.assertIs(type(points), list)
        for point in points:
            self.assertIs(type(point), tuple)
            self.assertEqual(value_of(form, *point), n, (form, n, point))
        self.assertEqual(len(set(points)), len(points))

    def check_ascending(self, form, n, points):
        self.check_points(form, n, points)
        self.assertEqual(points, sorted(points))


class TestRootedForms(Checks):

    def test_written_out(self):
        self.assertEqual(rooted_forms(-23, 2), [(2, 1, 3), (2, 3, 4)])
        self.assertEqual(rooted_forms(-23, 1), [(1, 1, 6)])
        self.assertEqual(rooted_forms(-4, -5), [(-5, 4, -1), (-5, 6, -2)])
        self.assertEqual(rooted_forms(8, 7), [(7, 6, 1), (7, 8, 2)])
        self.assertEqual(rooted_forms(8, 3), [])
        self.assertEqual(rooted_forms(0, 4), [(4, 0, 0), (4, 4, 1)])
        self.assertEqual(rooted_forms(4, -1), [(-1, 0, 1)])
        self.assertEqual(rooted_forms(3, 5), [])

    def test_small_numbers_by_trying_all(self):
        for d in range(-60, 61):
            for n in [*range(-40, 0), *range(1, 41), 64, -72, 81, 100, -108]:
                expected = [
                    (n, b, (b * b - d) // (4 * n)) for b in range(2 * abs(n)) if (b * b - d) % (4 * n) == 0]
                self.assertEqual(rooted_forms(d, n), expected, (d, n))

    def test_at_the_bounds(self):
        for d, n in (
            (-4, LIMIT), (5, -LIMIT), (-10 ** 6, LIMIT), (10 ** 6, -LIMIT), (10 ** 4, 9999999967), (-4, 9999999929),
            (-999999, 99989 * 99991), (1, 6469693230), (17, 2 ** 33), (0, LIMIT), (-7, -3 ** 20), (9996, 5 ** 14),
        ):
            forms = rooted_forms(d, n)
            self.assertIs(type(forms), list)
            for form in forms:
                self.assertEqual(form[0], n)
                self.assertEqual(discriminant_of(form), d)
                self.assertTrue(0 <= form[1] < 2 * abs(n))
            self.assertEqual(forms, sorted(set(forms), key=lambda form: form[1]))
        self.assertEqual(len(rooted_forms(1, 6469693230)), 2 ** 10)
        self.assertEqual(len(rooted_forms(0, LIMIT)), 10 ** 5)
        self.assertEqual(len(rooted_forms(-4, 9999999929)), 2)
        self.assertEqual(rooted_forms(-4, 9999999967), [])


class TestMeasures(Checks):

    def test_by_trying_all(self):
        for n in [*range(-200, 0), *range(1, 201), 720, -5040, 65536]:
            found = measures(n)
            self.assertIs(type(found), list)
            expected = [g for g in range(-abs(n), abs(n) + 1) if g != 0 and n % g == 0]
            self.assertEqual(sorted(found), expected)

    def test_at_the_bounds(self):
        for n, many in (
            (LIMIT, 2 * 121), (-LIMIT, 2 * 121), (6983776800, 2 * 2304), (9999999967, 4), (-99989 * 99991, 8),
            (99991 ** 2, 6), (2 ** 33, 68), (3 ** 20, 42),
        ):
            found = measures(n)
            self.assertEqual(len(set(found)), many)
            self.assertEqual(len(found), many)
            self.assertTrue(all(n % g == 0 for g in found))


class TestSettle(Checks):

    def test_size(self):
        self.assertEqual([size(point) for point in ((0, 0), (3, -4), (-1, 0))], [0, 25, 1])
        self.assertEqual(size((10 ** 1500, -1)), 10 ** 3000 + 1)

    def test_written_out(self):
        m = (3, 4, 2, 3)
        for point, settled in (
            ((3, 2), (1, 0)), ((1, 0), (1, 0)), ((-17, -12), (-1, 0)), ((3, -2), (1, 0)), ((2, 1), (2, -1)),
            ((2, -1), (2, -1)), ((-2, 1), (-2, -1)), ((0, 1), (0, 1)), ((4, 3), (0, 1)), ((99, 70), (1, 0)),
        ):
            found = settle(point, m)
            self.assertIs(type(found), tuple)
            self.assertEqual(found, settled, point)

    def test_the_lower_tuple_of_two(self):
        m = (3, 4, 2, 3)
        ties = 0
        for point in SQUARE:
            if point != (0, 0):
                there = apply(m, point)
                if size(there) == size(point):
                    ties += 1
                    self.assertEqual(settle(point, m), min(point, there))
                    self.assertEqual(settle(there, m), min(point, there))
                    self.assertEqual(settle(there, inverse(m)), min(point, there))
        self.assertGreater(ties, 10)

    def test_small_points_by_plain_powers(self):
        source = random.Random(101)
        forms = [form for form in forms_up_to(4) if kind_of(form) == "indefinite"]
        for form in source.sample(forms, 60):
            m = self_change(form)
            for many in (1, 2, 3, -1, -4):
                step = raised(m, many)
                for point in source.sample(SQUARE, 12):
                    if point != (0, 0):
                        found = settle(point, step)
                        self.assertEqual(found, nearest(point, step), (form, many, point))
                        for times in (1, -2, 7):
                            self.assertEqual(settle(apply(raised(step, times), point), step), found)

    def test_forms_of_great_numbers(self):
        source = random.Random(102)
        for form in ((1, 1, -1), (1, 0, -2), (3, 1, -5), (7, 0, -14), (1, 0, -94), (1, 1, -2442)):
            other = drawn_great_form(source, form, LIMIT)
            m = self_change(other)
            for point in source.sample(SQUARE, 12):
                if point != (0, 0):
                    found = settle(point, m)
                    self.assertEqual(found, nearest(point, m))
                    self.assertEqual(settle(apply(raised(m, 3), point), m), found)

    def test_many_digits(self):
        source = random.Random(103)
        start = time.monotonic()
        for m in ((2, 1, 1, 1), (3, 4, 2, 3), self_change((1, 1, -2442)), raised((3, 4, 2, 3), 1900)):
            for _ in range(3):
                point = (source.randrange(10 ** 2999, 10 ** 3000), source.randrange(10 ** 2999, 10 ** 3000))
                found = settle(point, m)
                self.assertLessEqual(size(found), min(size(apply(m, found)), size(apply(inverse(m), found))))
                near = source.choice(SQUARE[:500])
                for many in (1, 2, 1000):
                    if many * len(bin(max(m))) < 20000:
                        self.assertEqual(settle(apply(raised(m, many), near), m), nearest(near, m))
        self.assertLess(time.monotonic() - start, 20)


class TestDefinitePoints(Checks):

    def test_written_out(self):
        self.assertEqual(definite_points((1, 0, 1), 2), [(-1, -1), (-1, 1), (1, -1), (1, 1)])
        self.assertEqual(definite_points((1, 0, 1), 3), [])
        self.assertEqual(definite_points((1, 0, 1), 4), [(-2, 0), (0, -2), (0, 2), (2, 0)])
        self.assertEqual(definite_points((1, 1, 1), 1), [(-1, 0), (-1, 1), (0, -1), (0, 1), (1, -1), (1, 0)])
        self.assertEqual(definite_points((1, 0, 1), -4), [])
        self.assertEqual(definite_points((-1, 0, -1), -1), [(-1, 0), (0, -1), (0, 1), (1, 0)])
        self.assertEqual(definite_points((3, 0, 3), 4), [])
        self.assertEqual(definite_points((3, 0, 3), 6), [(-1, -1), (-1, 1), (1, -1), (1, 1)])

    def test_small_forms_by_trying_all(self):
        for form in forms_up_to(3):
            if kind_of(form) == "definite":
                # With values up to 40 no point lies outside of the square: x * x is at most 4 * c * n / abs(D).
                values = values_in_square(form)
                for n in [*range(-40, 0), *range(1, 41)]:
                    points = definite_points(form, n)
                    self.check_ascending(form, n, points)
                    self.assertEqual(points, values.get(n, []), (form, n))

    def test_drawn_forms(self):
        source = random.Random(111)
        for form in ((1, 0, 1), (2, 2, 3), (-3, 1, -5), (4, 0, 4), (6, 6, 6), (2, 1, 3)):
            for steps in (2, 6, 20):
                m = drawn_change(source, steps, 4)
                other = form_behind(form, m)
                for n in (1, 12, 36, 100, -7, 144, -9, 180):
                    points = definite_points(other, n)
                    self.check_ascending(other, n, points)
                    self.assertEqual(sorted(apply(m, point) for point in points), definite_points(form, n))

    def test_at_the_bounds_by_trying_all_columns(self):
        for form, n in (
            ((1, 0, 1), 801125), ((1, 1, 1), 991 * 7 ** 2), ((1, 0, 250000), 10 ** 6), ((577, 577, 577), 577 * 39 * 49),
            ((-7, 3, -11), -999999), ((2, 0, 2), 10 ** 6), ((1, 0, 1), 978122), ((5, 5, 49999), 10 ** 6 - 5),
        ):
            # y * y * abs(D) is at most 4 * a * n.
            limit = math.isqrt(4 * form[0] * n // abs(discriminant_of(form))) + 1
            expected = []
            a, b, c = form
            for y in range(-limit, limit + 1):
                d = b * b * y * y - 4 * a * (c * y * y - n)
                if d >= 0:
                    for root in {math.isqrt(d), -math.isqrt(d)}:
                        if root * root == d and (root - b * y) % (2 * a) == 0:
                            expected.append(((root - b * y) // (2 * a), y))
            points = definite_points(form, n)
            self.check_ascending(form, n, points)
            self.assertEqual(points, sorted(expected), (form, n))

    def test_great_forms(self):
        source = random.Random(112)
        for form, n in (((1, 0, 1), 801125), ((1, 1, 250000), 250002), ((3, 2, 6), 999999), ((-20, 0, -30), -10 ** 6)):
            other = drawn_great_form(source, form, LIMIT)
            points = definite_points(other, n)
            self.check_ascending(other, n, points)
            self.assertEqual(len(points), len(definite_points(form, n)))


class TestSplitPoints(Checks):

    def test_written_out(self):
        self.assertEqual(split_points((0, 1, 0), 2), [(-2, -1), (-1, -2), (1, 2), (2, 1)])
        self.assertEqual(split_points((1, 0, -1), 3), [(-2, -1), (-2, 1), (2, -1), (2, 1)])
        self.assertEqual(split_points((1, 0, -1), 2), [])
        self.assertEqual(split_points((0, 2, 0), 3), [])
        self.assertEqual(split_points((0, 3, 3), 3), [(0, -1), (0, 1)])
        self.assertEqual(split_points((1, 0, -1), -1), [(0, -1), (0, 1)])

    def test_small_forms_by_trying_all(self):
        for form in forms_up_to(3):
            if kind_of(form) == "split":
                values = values_in_square(form)
                for n in [*range(-30, 0), *range(1, 31)]:
                    points = split_points(form, n)
                    self.check_ascending(form, n, points)
                    near = [point for point in points if max(map(abs, point)) <= 25]
                    self.assertEqual(near, values.get(n, []), (form, n))

    def test_far_points(self):
        # 4 * a * n == (2 * a * x + (b - k) * y) * (2 * a * x + (b + k) * y): both factors measure 4 * a * n.
        for form in ((1, 3, 2), (2, 5, -3), (6, -5, -6), (-4, 0, 9), (5, 10, -15)):
            a, b, c = form
            k = math.isqrt(discriminant_of(form))
            for n in (-3600, -45, 1, 60, 5040):
                expected = set()
                for g in range(1, abs(4 * a * n) + 1):
                    if 4 * a * n % g == 0:
                        for s in (g, -g):
                            t = 4 * a * n // s
                            if (t - s) % (2 * k) == 0:
                                y = (t - s) // (2 * k)
                                if (s - (b - k) * y) % (2 * a) == 0:
                                    expected.add(((s - (b - k) * y) // (2 * a), y))
                self.assertEqual(split_points(form, n), sorted(expected), (form, n))

    def test_at_the_bounds(self):
        source = random.Random(121)
        for form, n in (
            ((0, 1, 0), 720720), ((1, 0, -1), 720720), ((0, 1000, 999), 999), ((LIMIT, 1000, 0), LIMIT + 1000),
            ((0, 6, 0), -720720), ((3, 4, 1), -10 ** 6),
        ):
            points = split_points(form, n)
            self.check_ascending(form, n, points)
            m = drawn_change(source, 5, 5)
            other = split_points(form_behind(form, m), n)
            self.check_ascending(form_behind(form, m), n, other)
            self.assertEqual(sorted(apply(m, point) for point in other), points)
        self.assertEqual(len(split_points((0, 1, 0), 720720)), 480)
        self.assertIn((1, 1), split_points((LIMIT, 1000, 0), LIMIT + 1000))


class TestFirstPoints(Checks):

    def test_definite_forms(self):
        for form in forms_up_to(3):
            if kind_of(form) == "definite":
                values = values_in_square(form)
                changes = self_changes(form)
                for n in (-36, -12, -8, -3, -1, 1, 2, 3, 4, 7, 9, 12, 18, 25, 36):
                    firsts = first_points(form, n)
                    self.check_points(form, n, firsts)
                    told = sorted(apply(m, point) for m in changes for point in firsts)
                    self.assertEqual(told, values.get(n, []), (form, n))

    def test_indefinite_forms(self):
        source = random.Random(131)
        forms = [form for form in forms_up_to(5) if kind_of(form) == "indefinite"]
        for form in source.sample(forms, 150):
            m = self_change(form)
            values = values_in_square(form)
            for n in source.sample(sorted(values), 10) + source.sample(range(1, 100), 6) + [-1, 1, 4, -4, 36]:
                firsts = first_points(form, n)
                self.check_points(form, n, firsts)
                settled = [nearest(point, m) for point in firsts]
                settled += [nearest((-x, -y), m) for x, y in firsts]
                self.assertEqual(len(set(settled)), 2 * len(firsts))
                for point in values.get(n, []):
                    self.assertIn(nearest(point, m), settled, (form, n, point))

    def test_written_out(self):
        self.assertEqual(first_points((2, 0, 2), 3), [])
        self.assertEqual(first_points((1, 0, -2), 3), [])
        self.assertEqual(len(first_points((1, 0, -2), 7)), 2)
        self.assertEqual(len(first_points((1, 0, 1), 25)), 3)
        self.assertEqual(len(first_points((1, 0, 3), 4)), 3)

    def test_numbers_told_by_signs(self):
        # Each of these discriminants has one class, with which the sum of the signs of the numbers that measure n
        # tells how many first points there are.
        for form, d in (
            ((1, 0, 1), -4), ((1, 1, 1), -3), ((1, 1, 41), -163), ((1, 1, -1), 5), ((1, 0, -2), 8), ((1, 1, -4), 17),
            ((1, 1, -3), 13),
        ):
            source = random.Random(132)
            m = drawn_change(source, 4, 3)
            other = form_behind(form, m)
            for n in (1, 2, 5, 13, 36, 1105, 32045, 5 ** 8, 801125, 720720, 10 ** 6, 999983, 999999, 10 ** 6 - 7):
                total, rest = 1, n
                for p in range(2, n + 1):
                    many = 0
                    while rest % p == 0:
                        rest //= p
                        many += 1
                    if many:
                        total *= sum(sign_of(d, p) ** k for k in range(many + 1))
                    if rest == 1:
                        break
                firsts = first_points(other, n)
                self.check_points(other, n, firsts)
                self.assertEqual(len(firsts), total, (d, n))

    def test_at_the_bounds(self):
        source = random.Random(133)
        for form, n in (
            ((1, 1, -2499), 10 ** 6), ((1, 0, -2473), 81 * 25), ((50, 0, -47), -720720), ((3, 1, -800), 65536),
            ((1, 0, 250000), 750000 + 9), ((7, 6, 35000), 10 ** 6 - 1), ((31, 0, -62), 31 * 20449),
        ):
            self.assertLessEqual(abs(n), 10 ** 6)
            great = drawn_great_form(source, form, LIMIT)
            firsts, others = first_points(form, n), first_points(great, n)
            self.check_points(form, n, firsts)
            self.check_points(great, n, others)
            self.assertEqual(len(firsts), len(others))
            m = proper_change(form, great)
            if kind_of(form) == "indefinite":
                self_m = self_change(form)
                both = [[nearest(point, self_m) for point in told] for told in (
                    firsts + [(-x, -y) for x, y in firsts],
                    [apply(m, point) for point in others] + [apply(m, (-x, -y)) for x, y in others])]
                self.assertEqual(sorted(both[0]), sorted(both[1]))

    def test_lists_are_new(self):
        for call in (first_points, definite_points):
            call((1, 0, 1), 25).clear()
            self.assertEqual(len(call((1, 0, 1), 25)), {first_points: 3, definite_points: 12}[call])


class TestOrbitPoints(Checks):

    def check(self, form, n):
        answer = orbit_points(form, n)
        self.assertIs(type(answer), tuple)
        m, points = answer
        self.assertEqual(m, self_change(form))
        self.check_ascending(form, n, points)
        for point in points:
            self.assertEqual(nearest(point, m), point)
        return m, points

    def test_written_out(self):
        self.assertEqual(orbit_points((1, 0, -2), 1), ((3, 4, 2, 3), [(-1, 0), (1, 0)]))
        self.assertEqual(orbit_points((1, 0, -2), -1), ((3, 4, 2, 3), [(-1, -1), (-1, 1)]))
        self.assertEqual(orbit_points((1, 0, -2), 7), ((3, 4, 2, 3), [(-3, -1), (-3, 1), (3, -1), (3, 1)]))
        self.assertEqual(orbit_points((1, 0, -2), 3), ((3, 4, 2, 3), []))
        self.assertEqual(orbit_points((2, 0, -4), 3), ((3, 4, 2, 3), []))
        self.assertEqual(orbit_points((2, 0, -4), 2), ((3, 4, 2, 3), [(-1, 0), (1, 0)]))

    def test_all_points_of_a_square(self):
        source = random.Random(141)
        forms = [form for form in forms_up_to(5) if kind_of(form) == "indefinite"]
        for form in source.sample(forms, 150):
            values = values_in_square(form)
            for n in source.sample(sorted(values), 10) + source.sample(range(-99, 0), 5):
                m, points = self.check(form, n)
                for point in values.get(n, []):
                    self.assertIn(nearest(point, m), points, (form, n, point))
                near = [point for point in points if max(map(abs, point)) <= 25]
                self.assertLessEqual(set(near), set(values.get(n, [])))

    def test_at_the_bounds(self):
        source = random.Random(142)
        for form, n in (
            ((1, 1, -1), 10 ** 6 - 1), ((1, 0, -2), 10 ** 6), ((1, 1, -2499), 10 ** 6), ((50, 0, -47), -720720),
            ((1, 0, -2497), 2 ** 16), ((5, 5, -5), 5 * 199711),
        ):
            many = len(self.check(form, n)[1])
            great = drawn_great_form(source, form, LIMIT)
            self.assertEqual(len(self.check(great, n)[1]), many)
            self.assertEqual(many, 2 * len(first_points(form, n)))

    def test_lists_are_new(self):
        orbit_points((1, 0, -2), 7)[1].clear()
        self.assertEqual(len(orbit_points((1, 0, -2), 7)[1]), 4)


class TestIsRepresented(Checks):

    def test_small_forms_by_trying_all(self):
        for form in forms_up_to(3):
            if kind_of(form) in ("definite", "split"):
                values = values_in_square(form)
                for n in [*range(-15, 0), *range(1, 16)]:
                    told = is_represented(form, n)
                    self.assertIs(type(told), bool)
                    # Of small split forms each value up to 15 has a point in the square.
                    self.assertEqual(told, n in values, (form, n))

    def test_indefinite_forms(self):
        source = random.Random(151)
        forms = [form for form in forms_up_to(4) if kind_of(form) == "indefinite"]
        for form in source.sample(forms, 120):
            values = values_in_square(form)
            for n in range(1, 16):
                self.assertIs(is_represented(form, n), orbit_points(form, n)[1] != [])
                if n in values:
                    self.assertIs(is_represented(form, n), True)
        for form, n, told in (
            ((1, 0, -2), 3, False), ((1, 0, -3), -1, False), ((1, 0, -3), 1, True), ((1, 0, -61), -1, True),
            ((1, 0, -2473), 1, True), ((1, 0, 1), -1, False), ((2, 0, 2), 1, False), ((0, 2, 0), 1, False),
            ((-1, 0, -1), -2, True), ((3, 0, -6), 3, True), ((3, 0, -6), 2, False), ((1, 0, -94), 6, True),
        ):
            self.assertIs(is_represented(form, n), told, (form, n))

    def test_values_and_others_at_the_bounds(self):
        source = random.Random(152)
        for form in ((1, 0, 1), (1, 0, -2), (0, 1, 0), (1, 1, 1), (1, 1, 250000), (1, 1, -2499), (6, 5, -4)):
            great = drawn_great_form(source, form, LIMIT)
            for x, y in ((1, 0), (2, -3), (17, 1), (30, 0)):
                n = value_of(form, x, y)
                if 0 < abs(n) <= 10 ** 6:
                    self.assertIs(is_represented(great, n), True, (form, n))
        for n in (3, 7, 999983, 21, 3 * 10 ** 5):
            self.assertIs(is_represented(drawn_great_form(source, (1, 0, 1), LIMIT), n), False, n)


if __name__ == "__main__":
    unittest.main()
