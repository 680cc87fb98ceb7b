"""Points 7.1, 7.3 and 7.4: equations, the centre and the answers, held against plain search."""

import math
import random
import unittest

from tests.drawing import discriminant_of, drawn_change, form_behind, forms_up_to, kind_of, matrices_up_to
from tests.searching import (
    carried_back, carried_size, carried_to, equation_around, equation_through, flat_form, found_in, left_side,
    plain_centre, power_of, row_value, square_around, steps_within, told_in, told_parts, within_bounds)
from wholeconic.changes import change_equation, scale_equation
from wholeconic.conic import ALL, NONE, centre, solve, value
from wholeconic.indefinite import self_change

SQUARE = (-20, 20, -20, 20)


def drawn_numbers(source, size, many):
    return tuple(source.randint(-size, size) for _ in range(many))


def flat_parts_of(form):
    """Return (g, p, q) of point 3.5, by trying all."""
    top = max(map(abs, form))
    for p in range(0, top + 1):
        for q in range(-top, top + 1):
            if math.gcd(p, q) == 1 and (p > 0 or q == 1):
                g = form[0] // (p * p) if p else form[2]
                if flat_form(g, p, q) == form:
                    return (g, p, q)
    return None


class Checks(unittest.TestCase):

    def check_solve(self, equation, *boxes):
        """Check an answer by point 7.4 and, in some boxes, against all points; return it."""
        answer = solve(equation)
        self.assertIs(type(answer), tuple)
        checks = {
            "none": self.check_none, "all": self.check_all, "points": self.check_points, "lines": self.check_lines,
            "curves": self.check_curves, "rows": self.check_rows}
        checks[answer[0]](equation, answer)
        for box in boxes:
            told = sorted(point for part in told_parts(answer, box) for point in part)
            if answer[0] != "lines":
                self.assertEqual(len(set(told)), len(told), equation)
            self.assertEqual(sorted(set(told)), found_in(equation, box), (equation, answer, box))
        return answer

    def check_none(self, equation, answer):
        self.assertEqual(answer, ("none",))
        self.assertNotEqual(tuple(equation), (0, 0, 0, 0, 0, 0))

    def check_all(self, equation, answer):
        self.assertEqual(answer, ("all",))
        self.assertEqual(tuple(equation), (0, 0, 0, 0, 0, 0))

    def check_parts(self, answer):
        word, parts = answer
        self.assertIs(type(parts), tuple)
        self.assertGreater(len(parts), 0)
        for pair in parts:
            self.assertIs(type(pair), tuple)
        self.assertEqual(len(set(parts)), len(parts))
        if word != "curves":
            self.assertEqual(list(parts), sorted(parts))

    def check_points(self, equation, answer):
        self.check_parts(answer)
        self.assertNotEqual(discriminant_of(equation[:3]), 0)
        for x, y in answer[1]:
            self.assertEqual(left_side(equation, x, y), 0)

    def check_lines(self, equation, answer):
        self.check_parts(answer)
        self.assertIn(kind_of(equation[:3]), ("flat", "split"))
        for (x, y), (dx, dy) in answer[1]:
            self.assertEqual(math.gcd(dx, dy), 1)
            self.assertTrue(0 <= x < dx or (dx == 0 and y == 0 and dy == 1), answer)
            for n in (-2, -1, 0, 1, 2):
                self.assertEqual(left_side(equation, x + n * dx, y + n * dy), 0)

    def check_curves(self, equation, answer):
        self.check_parts(answer)
        self.assertEqual(kind_of(equation[:3]), "flat")
        g, p, q = flat_parts_of(tuple(equation[:3]))
        h = abs(equation[4] * p - equation[3] * q)
        self.assertGreater(h, 0)
        before = -1
        for xs, ys in answer[1]:
            self.assertIs(type(xs), tuple)
            self.assertIs(type(ys), tuple)
            t = p * xs[2] + q * ys[2]
            self.assertTrue(before < t < h, answer)
            before = t
            for n in (-2, -1, 0, 1, 2):
                x, y = row_value(xs, n), row_value(ys, n)
                self.assertEqual(left_side(equation, x, y), 0)
                self.assertEqual(p * x + q * y, t + h * n)

    def check_rows(self, equation, answer):
        _, change, triple, beginnings = answer
        form = tuple(equation[:3])
        self.assertEqual(kind_of(form), "indefinite")
        self.assertEqual(triple, plain_centre(equation))
        self.assertEqual(change, self.least_change(self_change(form), triple))
        self.check_parts(("beginnings", beginnings))
        self.assertEqual([type(part) for part in (change, change[0], change[1], triple)], [tuple] * 4)
        for point in beginnings:
            self.assertEqual(left_side(equation, *point), 0)
            for step in (carried_to, carried_back):
                there = step(change, point)
                self.assertEqual(left_side(equation, *there), 0)
                self.assertGreaterEqual(
                    (carried_size(triple, there), there), (carried_size(triple, point), point), equation)

    def least_change(self, m, triple):
        q, u, v = triple
        for many in range(1, 1000):
            p, r, s, t = power_of(m, many)
            right, up = u - p * u - r * v, v - s * u - t * v
            if right % q == 0 and up % q == 0:
                return ((p, r, s, t), (right // q, up // q))
        return None


class TestValueAndCentre(Checks):

    def test_constants(self):
        self.assertEqual(NONE, ("none",))
        self.assertEqual(ALL, ("all",))

    def test_value(self):
        source = random.Random(161)
        self.assertEqual(value((1, 2, 3, 4, 5, 6), (7, -8)), 49 - 112 + 192 + 28 - 40 + 6)
        for size in (5, 10 ** 8, 10 ** 1000):
            for _ in range(20):
                equation, point = drawn_numbers(source, size, 6), drawn_numbers(source, size, 2)
                self.assertEqual(value(equation, point), left_side(equation, *point))
        self.assertEqual(value([1, 0, 0, 0, 0, -4], (2, 9)), 0)

    def test_centre_written_out(self):
        for equation, triple in (
            ((1, 0, 1, 0, 0, -1), (1, 0, 0)), ((1, 0, 1, 1, 1, 0), (2, -1, -1)), ((1, 0, -2, 4, 4, 0), (1, -2, 1)),
            ((2, 1, 3, 1, 0, 5), (23, -6, 1)), ((0, 1, 0, 3, 4, 5), (1, -4, -3)), ((-1, 0, -3, 1, 1, 9), (6, 3, 1)),
        ):
            self.assertEqual(centre(equation), triple)

    def test_centre_by_the_definition(self):
        source = random.Random(162)
        for size in (3, 9, 10 ** 5, 10 ** 900):
            for _ in range(150):
                equation = drawn_numbers(source, size, 6)
                a, b, c, d, e, _ = equation
                if discriminant_of(equation[:3]) == 0:
                    continue
                triple = centre(equation)
                self.assertIs(type(triple), tuple)
                q, u, v = triple
                self.assertGreater(q, 0)
                self.assertEqual(math.gcd(q, u, v), 1)
                self.assertEqual(2 * a * u + b * v + d * q, 0)
                self.assertEqual(b * u + 2 * c * v + e * q, 0)


class TestWrittenOut(Checks):

    def test_each_kind_of_answer(self):
        for equation, answer in (
            ((0, 0, 0, 0, 0, 0), ("all",)), ((0, 0, 0, 0, 0, 7), ("none",)), ((0, 0, 0, 2, 4, 1), ("none",)),
            ((0, 0, 0, 2, 3, 1), ("lines", (((1, -1), (3, -2)),))),
            ((0, 0, 0, 0, 5, 10), ("lines", (((0, -2), (1, 0)),))),
            ((0, 0, 0, -3, 0, 6), ("lines", (((2, 0), (0, 1)),))),
            ((1, 0, 1, 0, 0, -2), ("points", ((-1, -1), (-1, 1), (1, -1), (1, 1)))),
            ((1, 0, 1, 0, 0, 0), ("points", ((0, 0),))),
            ((1, 0, 1, 1, 1, 0), ("points", ((-1, -1), (-1, 0), (0, -1), (0, 0)))),
            ((1, 0, 1, 0, 0, -3), ("none",)), ((1, 0, 1, 0, 0, 1), ("none",)), ((2, 0, 2, 2, 2, 1), ("none",)),
            ((0, 1, 0, 0, 0, -2), ("points", ((-2, -1), (-1, -2), (1, 2), (2, 1)))),
            ((0, 1, 0, -1, -1, 1), ("lines", (((0, 1), (1, 0)), ((1, 0), (0, 1))))),
            ((1, 0, -1, 0, 0, 0), ("lines", (((0, 0), (1, -1)), ((0, 0), (1, 1))))),
            ((0, 2, 0, 1, 2, 1), ("lines", (((-1, 0), (0, 1)),))), ((0, 4, 0, 2, 2, 1), ("none",)),
            ((1, 0, 0, 0, 0, -4), ("lines", (((-2, 0), (0, 1)), ((2, 0), (0, 1))))),
            ((1, 0, 0, 0, 0, 0), ("lines", (((0, 0), (0, 1)),))), ((1, 0, 0, 0, 0, -2), ("none",)),
            ((1, 0, 0, 0, 0, 4), ("none",)), ((4, 4, 1, 2, 1, -2), ("lines", (((0, -2), (1, -2)), ((0, 1), (1, -2))))),
            ((1, 0, 0, 0, -1, 0), ("curves", (((0, 1, 0), (1, 0, 0)),))),
            ((1, 0, 0, 0, -3, -1), ("curves", (((0, 3, 1), (3, 2, 0)), ((0, 3, 2), (3, 4, 1))))),
            ((1, 0, 0, 0, -3, 1), ("none",)), ((0, 0, 1, 2, 0, 0), ("curves", (((-2, 0, 0), (0, 2, 0)),))),
            ((1, 0, -2, 0, 0, -1), ("rows", ((3, 4, 2, 3), (0, 0)), (1, 0, 0), ((-1, 0), (1, 0)))),
            ((1, 0, -2, 0, 0, 0), ("points", ((0, 0),))), ((1, 0, -2, 0, 0, -3), ("none",)),
            ((1, 0, -2, 1, 0, 0), ("rows", ((3, 4, 2, 3), (1, 1)), (2, -1, 0), ((-1, 0), (0, 0)))),
            ((4, 0, -8, 4, 0, 1), ("none",)), ((1, 0, -2, 1, 1, 1), (
                "rows", ((17, 24, 12, 17), (2, 2)), (4, -2, 1), ((-2, -1), (-1, 1), (0, 1), (1, -1)))),
            ((1, 0, -2, 1, 1, 2), ("none",)),
        ):
            self.assertEqual(self.check_solve(equation, SQUARE), answer, equation)

    def test_lists_as_equations(self):
        for equation in ([1, 0, -2, 0, 0, -1], [0, 0, 0, 2, 3, 1], [1, 0, 1, 0, 0, -2], [0, 1, 0, 0, 0, -2],
                         [1, 0, 0, 0, -3, -1], [1, 0, 0, 0, 0, -4], [0, 0, 0, 0, 0, 0]):
            before = list(equation)
            self.assertEqual(solve(equation), solve(tuple(equation)))
            self.assertEqual(equation, before)


class TestSmallEquations(Checks):

    def test_all_numbers_small(self):
        seen = {}
        source = random.Random(171)
        tails = [(d, e, f) for d in range(-4, 5) for e in range(-4, 5) for f in range(-4, 5)]
        for form in forms_up_to(2):
            for tail in source.sample(tails, 12):
                answer = self.check_solve(form + tail, (-7, 7, -7, 7))
                seen.setdefault((kind_of(form), answer[0]), []).append(form + tail)
        for key in (
            ("definite", "points"), ("definite", "none"), ("indefinite", "rows"), ("indefinite", "none"),
            ("indefinite", "points"), ("split", "points"), ("split", "lines"), ("split", "none"), ("flat", "lines"),
            ("flat", "curves"), ("flat", "none"),
        ):
            self.assertGreater(len(seen.pop(key)), 0)
        self.assertEqual(seen, {})

    def test_no_squares(self):
        for d in range(-6, 7):
            for e in range(-6, 7):
                for f in (-7, -2, 0, 1, 6):
                    answer = self.check_solve((0, 0, 0, d, e, f), (-9, 9, -9, 9))
                    if (d, e) != (0, 0):
                        self.assertEqual(answer[0], "lines" if f % math.gcd(d, e) == 0 else "none")
                    else:
                        self.assertEqual(answer, ALL if f == 0 else NONE)

    def test_scaled_equations_have_the_same_points(self):
        source = random.Random(172)
        for form in source.sample(list(forms_up_to(4)), 150):
            equation = equation_through(source, form, drawn_numbers(source, 5, 2), 6)
            for number in (-1, 2, -3):
                other = scale_equation(equation, number)
                if not within_bounds(other):
                    continue
                answer, scaled = solve(equation), solve(other)
                self.assertEqual(scaled[0], answer[0])
                if answer[0] == "curves":
                    # By point 7.4 the h of the curves is times the number, too.
                    self.assertEqual(len(scaled[1]), len(answer[1]) * abs(number))
                    self.assertEqual(told_in(scaled, SQUARE), told_in(answer, SQUARE))
                elif answer[0] == "rows" and number < 0:
                    # The self-change of the negative form is the one that carries back.
                    self.assertEqual(scaled[2:], answer[2:])
                    self.assertEqual(carried_to(scaled[1], carried_to(answer[1], (3, 7))), (3, 7))
                else:
                    self.assertEqual(scaled, answer)


class TestDefinite(Checks):

    def test_drawn(self):
        source = random.Random(181)
        forms = [form for form in forms_up_to(8) if kind_of(form) == "definite"]
        for form in source.sample(forms, 150):
            point = drawn_numbers(source, 10, 2)
            answer = self.check_solve(equation_through(source, form, point, 9), SQUARE)
            self.assertEqual(answer[0], "points")
            self.assertIn(point, answer[1])
            self.check_solve(form + drawn_numbers(source, 30, 3), SQUARE)

    def test_a_point_alone_and_no_point(self):
        for form in ((1, 0, 1), (3, 1, 2), (-2, 0, -5), (4, 4, 6)):
            self.assertEqual(self.check_solve(equation_around(form, (7, -9), 0), SQUARE), ("points", ((7, -9),)))
            for number in (1, -1):
                # Beyond the extreme value at the centre there is no point.
                self.assertEqual(self.check_solve(equation_around(form, (7, -9), -form[0] * number ** 2), SQUARE), NONE)
        self.assertEqual(self.check_solve((1, 0, 1, 1, 0, 0), SQUARE), ("points", ((-1, 0), (0, 0))))
        # At the centre (-1/2, 0) the left side is 0, and nowhere else.
        self.assertEqual(self.check_solve((4, 0, 4, 4, 0, 1), SQUARE), NONE)

    def test_at_the_bounds(self):
        source = random.Random(182)
        for form, centre_point, n, many in (
            ((1, 0, 1), (0, 0), 35409725, 4 * 54), ((1, 0, 1), (1000, -1500), 35409725, 4 * 54),
            ((1, 1, 1), (-2000, 4000), 7 ** 2 * 13 ** 2 * 19 ** 2, 6 * 27), ((-1, 0, -500), (5, 5), -10 ** 7, None),
            ((20, 0, 25), (-70, 90), 20 * 81 + 25 * 16, None), ((1, 0, 499), (3, -400), 10 ** 6 + 499, None),
        ):
            for steps in (0, 2):
                m = drawn_change(source, steps, 3)
                equation = equation_around(form_behind(form, m), centre_point, n)
                self.assertTrue(within_bounds(equation), equation)
                answer = self.check_solve(equation, square_around(centre_point, 40))
                if many is not None:
                    self.assertEqual(len(answer[1]), many)

    def test_centre_of_the_greatest_denominator(self):
        for equation in ((1, 0, 499, 1, 1, -500), (22, 1, 22, 3, -5, 2), (7, 5, 72, -1, 1, -70), (1, 1, 500, 1, 0, -2)):
            self.check_solve(equation, SQUARE)


class TestSplit(Checks):

    def test_drawn(self):
        source = random.Random(191)
        forms = [form for form in forms_up_to(8) if kind_of(form) == "split"]
        for form in source.sample(forms, 200):
            point = drawn_numbers(source, 10, 2)
            answer = self.check_solve(equation_through(source, form, point, 9), SQUARE)
            self.assertIn(answer[0], ("points", "lines"))
            self.check_solve(form + drawn_numbers(source, 30, 3), SQUARE)

    def test_two_lines_one_line_or_none(self):
        # The product of two lines of which both, one or none have points.
        many = {0: 0, 1: 0, 2: 0}
        source = random.Random(192)
        for _ in range(300):
            p, q, r, p2, q2, r2 = drawn_numbers(source, 4, 6)
            form = (p * p2, p * q2 + q * p2, q * q2)
            if p * q2 == q * p2:
                continue
            answer = self.check_solve(form + (p * r2 + r * p2, q * r2 + r * q2, r * r2), SQUARE)
            lines = (r % math.gcd(p, q) == 0) + (r2 % math.gcd(p2, q2) == 0)
            many[lines] += 1
            self.assertEqual(answer[0], "lines" if lines else "none")
            self.assertEqual(len(answer[1:] and answer[1]), lines)
        self.assertGreater(min(many.values()), 5)

    def test_at_the_bounds(self):
        for equation, word in (
            ((0, 1, 0, 0, 0, -73513440), "points"), ((0, 1, 0, 1000, -900, 10 ** 7), "points"),
            ((10 ** 5, 10 ** 5, 0, 0, 0, -10 ** 5), "points"), ((0, 10 ** 5, 0, 10 ** 5, 0, 0), "lines"),
            ((10 ** 5, 0, -10 ** 5, 10 ** 6, 10 ** 6, 0), "lines"), ((99999, 99998, -1, 0, 0, 0), "lines"),
            ((1, 0, -1, 0, 0, -10 ** 8), "points"), ((0, 1, 0, 10 ** 4, 10 ** 4, 10 ** 8), "lines"),
            ((0, 3, 0, 10 ** 3, 10 ** 3, -10 ** 8), "points"),
        ):
            self.assertTrue(within_bounds(equation), equation)
            self.assertEqual(self.check_solve(equation, SQUARE)[0], word, equation)

    def test_far_from_the_origin(self):
        source = random.Random(193)
        for form in ((0, 1, 0), (1, 0, -1), (2, 5, 2), (3, 1, -2), (6, -1, -1)):
            for n in (0, 12, -720, 5040):
                centre_point = drawn_numbers(source, 3000, 2)
                equation = equation_around(form, centre_point, n)
                self.check_solve(equation, square_around(centre_point, 20))


class TestFlat(Checks):

    def test_lines(self):
        source = random.Random(201)
        many = {0: 0, 1: 0, 2: 0}
        for p, q in ((1, 0), (0, 1), (1, 1), (2, -3), (5, 2), (1, -7)):
            for _ in range(40):
                g, s, f = source.choice((-3, -1, 1, 2, 4)), source.randint(-9, 9), source.randint(-12, 12)
                equation = flat_form(g, p, q) + (s * p, s * q, f)
                answer = self.check_solve(equation, SQUARE)
                roots = [t for t in range(-30, 31) if g * t * t + s * t + f == 0]
                many[len(roots)] += 1
                self.assertEqual(answer[0], "lines" if roots else "none")
                self.assertEqual(len(answer[1:] and answer[1]), len(roots))
        self.assertGreater(min(many.values()), 5)

    def test_curves(self):
        source = random.Random(202)
        for p, q in ((1, 0), (0, 1), (1, 1), (2, -3), (5, 2), (1, -7), (3, 4)):
            for _ in range(30):
                form = flat_form(source.choice((-3, -1, 1, 2, 4)), p, q)
                equation = equation_through(source, form, drawn_numbers(source, 9, 2), 9)
                answer = self.check_solve(equation, SQUARE)
                self.assertIn(answer[0], ("curves", "lines"))
                other = form + drawn_numbers(source, 9, 3)
                self.check_solve(other, SQUARE)

    def test_each_rest(self):
        # Each t below h has points exactly if one point of the curve has it.
        for equation in ((4, 0, 0, 3, 12, -1), (9, 12, 4, 5, -6, 0), (12, 0, 0, 0, 12, 0), (2, 4, 2, 1, -7, 3)):
            answer = self.check_solve(equation, SQUARE)
            g, p, q = flat_parts_of(equation[:3])
            h = abs(equation[4] * p - equation[3] * q)
            told = {(p * xs[2] + q * ys[2]) for xs, ys in answer[1]} if answer != NONE else set()
            seen = {(p * x + q * y) % h for x, y in found_in(equation, (-150, 150, -150, 150))}
            self.assertEqual(told, seen, equation)

    def test_at_the_bounds(self):
        for equation in (
            (10 ** 5, 0, 0, 0, 10 ** 4, 0), (10 ** 4, 0, 0, 10 ** 4, -10 ** 4, 10 ** 8),
            (1, 0, 0, 10 ** 6, 9999, -10 ** 8),
            (0, 0, -1, -9973, 10 ** 6, 10 ** 7), (49729, -446 * 2 * 100, 4 * 10 ** 4, 0, 44, 44 * 9),
            (99856, 2 * 316 * 315, 315 ** 2, -316, 29, 7), (1, 0, 0, 0, -10 ** 4, -1),
        ):
            self.assertEqual(discriminant_of(equation[:3]), 0, equation)
            answer = self.check_solve(equation, SQUARE)
            if answer[0] == "curves":
                g, p, q = flat_parts_of(equation[:3]) if max(map(abs, equation[:3])) < 20 else (None, None, None)
                for xs, ys in answer[1][:3] + answer[1][-3:]:
                    self.assertEqual(left_side(equation, row_value(xs, 10 ** 50), row_value(ys, 10 ** 50)), 0)

    def test_far_from_the_origin(self):
        source = random.Random(203)
        for _ in range(40):
            form = flat_form(source.choice((-2, 1, 3)), *source.choice(((1, 0), (0, 1), (2, 1), (1, -3))))
            equation = equation_through(source, form, (0, 0), 5)
            shift = drawn_numbers(source, 2000, 2)
            moved = change_equation(equation, (1, 0, 0, 1), (-shift[0], -shift[1]))
            if max(map(abs, moved[3:5])) <= 10 ** 6 and abs(moved[5]) <= 10 ** 8:
                self.check_solve(moved, square_around(shift, 15))

    def test_steps_cover_the_square(self):
        # What the checks above rest on: the plain walk over a curve misses no point of a box.
        self.assertIn(3, steps_within((1, 0, 0), 9, 9))
        self.assertIn(-12, steps_within((2, 20, 1), 0, 49))


class TestIndefinite(Checks):

    def test_drawn(self):
        source = random.Random(211)
        forms = [form for form in forms_up_to(8) if kind_of(form) == "indefinite"]
        for form in source.sample(forms, 250):
            point = drawn_numbers(source, 10, 2)
            answer = self.check_solve(equation_through(source, form, point, 9), SQUARE)
            self.assertIn(answer[0], ("rows", "points"))
            self.check_solve(form + drawn_numbers(source, 30, 3), SQUARE)

    def test_one_point(self):
        for form in ((1, 0, -2), (3, 1, -5), (2, 2, -6)):
            self.assertEqual(self.check_solve(equation_around(form, (4, -7), 0), SQUARE), ("points", ((4, -7),)))
        # The centre is no whole-number point here, though the left side is 0 at it.
        self.assertEqual(self.check_solve((4, 0, -8, 4, 0, 1), SQUARE), NONE)

    def test_great_contents_need_high_powers(self):
        powers = set()
        source = random.Random(212)
        for form in (
            (20, 20, -20), (15, 0, -30), (18, 18, -18), (12, 12, -36), (11, 22, -22), (7, 7, -7), (13, 0, -26)
        ):
            for _ in range(12):
                equation = equation_through(source, form, drawn_numbers(source, 6, 2), 40)
                answer = self.check_solve(equation, SQUARE)
                if answer[0] == "rows":
                    m = self_change(form)
                    powers.add(next(many for many in range(1, 100) if power_of(m, many) == answer[1][0]))
        self.assertGreater(max(powers), 8)

    def test_long_units(self):
        for equation in (
            (1, 0, -499, 0, 0, -1), (1, 0, -421, 0, 0, -1), (1, 1, -498, 1, 1, -500), (1, 0, -94, 1, 0, -4),
            (2, 1, -200, 0, 3, -5), (1, 1, -499, 0, 0, 1), (19, 0, -26, 12, 0, -31),
        ):
            self.assertTrue(within_bounds(equation), equation)
            self.check_solve(equation, SQUARE)

    def test_far_from_the_origin(self):
        source = random.Random(213)
        for form in ((1, 0, -2), (1, 1, -1), (3, 1, -5), (2, 0, -6), (5, 5, -5), (1, 0, -46)):
            for n in (1, -1, 7, 36, -50, 95, 1440):
                centre_point = drawn_numbers(source, 3000, 2)
                equation = equation_around(form, centre_point, n)
                if within_bounds(equation):
                    self.check_solve(equation, square_around(centre_point, 20))

    def test_far_rational_centres(self):
        source = random.Random(214)
        for form in ((1, 0, -2), (1, 1, -1), (3, 1, -5), (2, 0, -6), (1, 0, -7)):
            for _ in range(15):
                point = drawn_numbers(source, 3000, 2)
                tail = drawn_numbers(source, 5, 2)
                near = form + tail + (-left_side(form + tail + (0,), 2, 1),)
                equation = change_equation(near, (1, 0, 0, 1), (2 - point[0], 1 - point[1]))
                self.assertEqual(left_side(equation, *point), 0)
                if within_bounds(equation):
                    answer = self.check_solve(equation, square_around(point, 20))
                    self.assertIn(answer[0], ("rows", "points"))

    def test_great_values(self):
        for form, n in (
            ((1, 0, -2), 7 * 17 * 23 * 31 * 41), ((1, 1, -1), 11 * 19 * 29 * 31 * 41), ((1, 1, -1), -5 ** 4 * 11 ** 4),
            ((1, 0, -3), 10 ** 6 - 3), ((1, 0, -499), -498), ((3, 0, -6), 3 * 7 ** 2 * 17 ** 2 * 23),
        ):
            for centre_point in ((0, 0), (91, -47)):
                answer = self.check_solve(equation_around(form, centre_point, n), square_around(centre_point, 25))
                self.assertIn(answer[0], ("rows", "none"))
        self.assertEqual(len(solve((1, 0, -2, 0, 0, -7 * 17 * 23 * 31 * 41))[3]), 64)


class TestAcrossChanges(Checks):

    def test_answers_go_with_changes_of_unknowns(self):
        source = random.Random(221)
        changes = matrices_up_to(2, 1) + matrices_up_to(2, -1)
        for form in source.sample(list(forms_up_to(4)), 150):
            equation = equation_through(source, form, drawn_numbers(source, 5, 2), 6)
            m, shift = source.choice(changes), drawn_numbers(source, 9, 2)
            other = change_equation(equation, m, shift)
            if not within_bounds(other):
                continue
            answer, moved = solve(equation), self.check_solve(other, (-8, 8, -8, 8))
            self.assertEqual(answer[0], moved[0])
            self.assertEqual(len(answer[-1]), len(moved[-1]))
            for x, y in told_in(moved, (-8, 8, -8, 8)):
                there = (m[0] * x + m[1] * y + shift[0], m[2] * x + m[3] * y + shift[1])
                self.assertIn(there, told_in(answer, square_around(there, 0)))


if __name__ == "__main__":
    unittest.main()
