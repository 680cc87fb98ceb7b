"""What point 0.2 promises over the whole program."""

import random
import unittest

from tests.drawing import discriminant_of, drawn_change, form_behind, forms_up_to, is_whole_square, kind_of
from tests.searching import (
    carried_to, drawn_of_each_kind, equation_through, found_in, left_side, square_around, within_bounds)
from wholeconic.alike import canonical_form, proper_change
from wholeconic.answers import in_box, moved, name_of, point_of, tells
from wholeconic.changes import change_equation, new_point, old_point, scale_equation, turn_over
from wholeconic.congruent import cut
from wholeconic.conic import ALL, NONE, solve
from wholeconic.forms import act
from wholeconic.fractions import convergents, expand, pell
from wholeconic.indefinite import least_unit, self_change
from wholeconic.papers import judge, paper_of
from wholeconic.text import read_equation, write_equation

SQUARE = (-12, 12, -12, 12)


def parts_of(answer):
    """Return how many points, lines, curves or rows an answer has."""
    return 0 if len(answer) == 1 else len(answer[-1])


class TestAnswers(unittest.TestCase):

    def test_an_answer_has_every_point_and_no_other_one(self):
        source = random.Random(701)
        for equation in drawn_of_each_kind(source, 100):
            answer = solve(equation)
            points = found_in(equation, SQUARE)
            self.assertEqual(in_box(answer, SQUARE), points, equation)
            for point in points:
                self.assertIs(tells(answer, point), True)
            if answer != ALL:
                names = [name_of(answer, point) for point in points]
                self.assertEqual([point_of(answer, name) for name in names], points)
                self.assertEqual(len(set(names)), len(names))

    def test_answers_go_with_every_change_of_unknowns(self):
        source = random.Random(702)
        for equation in drawn_of_each_kind(source, 100):
            answer = solve(equation)
            m = drawn_change(source, 2, 2)
            if source.random() < 0.5:
                m = (m[0], -m[1], m[2], -m[3])
            shift = (source.randint(-20, 20), source.randint(-20, 20))
            other = change_equation(equation, m, shift)
            if not within_bounds(other):
                continue
            there = solve(other)
            self.assertEqual(there[0], answer[0])
            self.assertEqual(parts_of(there), parts_of(answer))
            for point in in_box(there, SQUARE):
                self.assertIs(tells(answer, old_point(m, shift, point)), True)
            for point in in_box(answer, SQUARE):
                self.assertIs(tells(there, new_point(m, shift, point)), True)
            turned = in_box(solve(turn_over(equation)), SQUARE)
            self.assertEqual(turned, sorted((y, x) for x, y in in_box(answer, SQUARE)))

    def test_far_points_go_with_changes_too(self):
        source = random.Random(703)
        for equation in drawn_of_each_kind(source, 25):
            answer = solve(equation)
            m, shift = drawn_change(source, 2, 2), (source.randint(-20, 20), source.randint(-20, 20))
            other = change_equation(equation, m, shift)
            if answer[0] in ("lines", "curves", "rows") and within_bounds(other):
                there = solve(other)
                for index in range(parts_of(answer)):
                    for step in (-30, 7, 60):
                        point = point_of(answer, (index, step))
                        self.assertIs(tells(there, new_point(m, shift, point)), True)
                        x, y = new_point(m, shift, point)
                        self.assertIs(tells(there, (x + 1, y)), left_side(other, x + 1, y) == 0)

    def test_an_equation_times_a_number_has_the_same_points(self):
        source = random.Random(704)
        for equation in drawn_of_each_kind(source, 40):
            answer = solve(equation)
            for number in (-1, 2, -3, 5):
                other = scale_equation(equation, number)
                if not within_bounds(other):
                    continue
                there = solve(other)
                self.assertEqual(there[0], answer[0])
                self.assertEqual(in_box(there, SQUARE), in_box(answer, SQUARE))
                if answer[0] in ("none", "all", "points", "lines") or (answer[0] == "rows" and number > 0):
                    self.assertEqual(there, answer)
                elif answer[0] == "rows":
                    self.assertEqual(there[2:], answer[2:])
                    self.assertEqual(moved(there[1], moved(answer[1], (5, 8))), (5, 8))
                else:
                    for index in range(parts_of(there)):
                        for step in (-10, 0, 33):
                            self.assertIs(tells(answer, point_of(there, (index, step))), True)
                    for index in range(parts_of(answer)):
                        for step in (-10, 0, 33):
                            self.assertIs(tells(there, point_of(answer, (index, step))), True)

    def test_cut_answers_share_the_points(self):
        source = random.Random(705)
        for equation in drawn_of_each_kind(source, 12):
            answer = solve(equation)
            if answer != ALL:
                modulus = source.randint(1, 5)
                parts = [cut(answer, modulus, (x, y)) for x in range(modulus) for y in range(modulus)]
                told = sorted(point for part in parts for point in in_box(part, SQUARE))
                self.assertEqual(told, found_in(equation, SQUARE))

    def test_papers_and_texts(self):
        source = random.Random(706)
        for equation in drawn_of_each_kind(source, 40):
            answer, paper = solve(equation), paper_of(equation)
            self.assertIs(judge(equation, answer, paper), True)
            self.assertIs(judge(equation, NONE, paper), answer == NONE)
            self.assertIs(judge(equation, ALL, paper), answer == ALL)
            self.assertEqual(read_equation(write_equation(equation)), equation)

    def test_far_centres(self):
        source = random.Random(707)
        for equation in drawn_of_each_kind(source, 25):
            shift = (source.randint(-2000, 2000), source.randint(-2000, 2000))
            other = change_equation(equation, (1, 0, 0, 1), (-shift[0], -shift[1]))
            if within_bounds(other):
                answer = solve(other)
                box = square_around(shift, 10)
                self.assertEqual(in_box(answer, box), found_in(other, box))
                self.assertIs(judge(other, answer, paper_of(other)), True)


class TestForms(unittest.TestCase):

    def test_one_canonical_form_exactly_for_forms_led_to_one_another(self):
        source = random.Random(711)
        forms = list(forms_up_to(3))
        for form in source.sample(forms, 120):
            other = form_behind(form, drawn_change(source, 4, 3))
            self.assertEqual(canonical_form(other)[0], canonical_form(form)[0])
            third = source.choice(forms)
            m = proper_change(form, third)
            self.assertIs(m is not None, canonical_form(form)[0] == canonical_form(third)[0])
            if m is not None:
                self.assertEqual(act(form, m), third)


class TestUnits(unittest.TestCase):

    def test_pell_and_fractions_and_solve_agree(self):
        for d in [*range(2, 130), 421, 499]:
            if is_whole_square(d):
                continue
            x, y = pell(d)
            self.assertEqual(least_unit(4 * d), (2 * x, y))
            self.assertEqual(self_change((1, 0, -d)), (x, d * y, y, x))
            first, period = expand(0, 1, d)
            turns = convergents(list(first) + list(period) * 2)
            self.assertEqual([pair for pair in turns if pair[0] ** 2 - d * pair[1] ** 2 == 1][0], (x, y))
            if 4 * d <= 2000:
                answer = solve((1, 0, -d, 0, 0, -1))
                self.assertEqual(answer, ("rows", ((x, d * y, y, x), (0, 0)), (1, 0, 0), ((-1, 0), (1, 0))))
                self.assertEqual(point_of(answer, (1, 1)), (x, y))

    def test_least_units_and_solve_agree(self):
        for D in range(5, 400):
            if D % 4 > 1 or is_whole_square(D):
                continue
            t, u = least_unit(D)
            form = (1, D % 2, (D % 2 - D) // 4)
            self.assertEqual(discriminant_of(form), D)
            answer = solve(form + (0, 0, -1))
            self.assertEqual(answer[0], "rows")
            matrix = answer[1][0]
            self.assertEqual((matrix[0] + matrix[3], matrix[2]), (t, u))
            self.assertIn((1, 0), answer[3])
            # The points with t * t - D * u * u == 4 are the units, and the least one is next to (2, 0).
            if 4 * D <= 2000:
                units = solve((1, 0, -D, 0, 0, -4))
                self.assertIs(tells(units, (t, u)), True)
                self.assertFalse([v for v in range(1, min(u, 2000)) if is_whole_square(D * v * v + 4)])

    def test_drawn_rows_are_moved_by_units(self):
        source = random.Random(721)
        forms = [form for form in forms_up_to(4) if kind_of(form) == "indefinite"]
        for form in source.sample(forms, 40):
            equation = equation_through(source, form, (1, 2), 5)
            answer = solve(equation)
            if answer[0] == "rows":
                there = carried_to(answer[1], (1, 2))
                self.assertEqual(left_side(equation, *there), 0)
                self.assertEqual(act(form, answer[1][0]), form)


if __name__ == "__main__":
    unittest.main()
