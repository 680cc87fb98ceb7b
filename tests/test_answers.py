"""Point 7.6 and the interface of answers: changes, names, and the points of a box, held against plain search."""

import random
import time
import unittest

from tests.drawing import drawn_change, matrices_up_to
from tests.searching import (
    carried_back, carried_to, drawn_of_each_kind, equation_around, found_in, is_inside, left_side, row_value,
    square_around, told_in)
from wholeconic.answers import back_change, far, in_box, moved, moved_often, name_of, point_of, tells
from wholeconic.congruent import cut
from wholeconic.conic import ALL, NONE, solve

FEW_POINTS = [(x, y) for x in range(-2, 3) for y in range(-2, 3)]
GREAT = 10 ** 6

# One equation for each kind of answer, with the kind.
ONE_OF_EACH = (
    ((1, 0, -2, 0, 0, -3), "none"), ((0, 0, 0, 0, 0, 0), "all"), ((1, 0, 1, 0, 0, -25), "points"),
    ((0, 0, 0, 2, 3, 1), "lines"), ((0, 1, 0, -1, -1, 1), "lines"), ((1, 0, 0, 0, 0, -4), "lines"),
    ((1, 0, 0, 0, -3, -1), "curves"), ((4, 4, 1, 3, -1, -5), "curves"), ((1, 0, -2, 0, 0, -7), "rows"),
    ((1, 0, -2, 1, 1, 1), "rows"), ((2, 0, -1, 0, 0, -1), "rows"), ((15, 0, -30, 2, 4, -38), "rows"))


class TestChanges(unittest.TestCase):

    def test_written_out(self):
        self.assertEqual(moved(((3, 4, 2, 3), (1, -1)), (5, 6)), (40, 27))
        self.assertEqual(back_change(((3, 4, 2, 3), (1, -1))), ((3, -4, -2, 3), (-7, 5)))
        self.assertEqual(moved_often(((3, 4, 2, 3), (0, 0)), (1, 0), 3), (99, 70))
        self.assertEqual(moved_often(((3, 4, 2, 3), (0, 0)), (1, 0), -2), (17, -12))
        self.assertEqual(moved_often(((1, 0, 0, 1), (2, -3)), (0, 0), 60), (120, -180))
        self.assertEqual(far((1, 0, 0), (3, -4)), 25)
        self.assertEqual(far((2, -1, 3), (1, 1)), 10)

    def test_by_the_definition(self):
        source = random.Random(301)
        for m in matrices_up_to(2, 1):
            change = (m, (source.randint(-9, 9), source.randint(-9, 9)))
            back = back_change(change)
            for pair in (back, back[0], back[1], moved(change, (1, 2))):
                self.assertIs(type(pair), tuple)
            for point in source.sample(FEW_POINTS, 4):
                there = moved(change, point)
                self.assertEqual(there, carried_to(change, point))
                self.assertEqual(moved(back, there), point)
                self.assertEqual(moved(back, point), carried_back(change, point))
                forth = point
                for steps in range(6):
                    self.assertEqual(moved_often(change, point, steps), forth)
                    self.assertEqual(moved_often(change, forth, -steps), point)
                    forth = carried_to(change, forth)

    def test_any_matrix_moves(self):
        for m in ((0, 0, 0, 0), (2, 0, 0, 2), (1, 2, 3, 4), (0, 1, 1, 0)):
            self.assertEqual(moved((m, (1, 1)), (3, 4)), carried_to((m, (1, 1)), (3, 4)))
            self.assertEqual(moved_often((m, (1, 1)), (3, 4), 2), carried_to((m, (1, 1)), moved((m, (1, 1)), (3, 4))))

    def test_sixty_steps_and_many_digits(self):
        source = random.Random(302)
        change = (drawn_change(source, 12, 10 ** 3), (source.randrange(10 ** 9), -source.randrange(10 ** 9)))
        point = (source.randrange(10 ** 40), source.randrange(10 ** 40))
        there = moved_often(change, point, 60)
        self.assertEqual(moved_often(change, there, -60), point)
        self.assertEqual(moved_often(change, moved_often(change, point, 25), 35), there)
        great = (drawn_change(source, 40, 10 ** 70), (10 ** 2999, -10 ** 2999))
        point = (10 ** 2990 + 1, 7)
        self.assertEqual(moved(back_change(great), moved(great, point)), point)

    def test_far(self):
        source = random.Random(303)
        for size in (9, 10 ** 1500):
            for _ in range(20):
                q, u, v, x, y = [source.randint(-size, size) for _ in range(5)]
                self.assertEqual(far((abs(q), u, v), (x, y)), (abs(q) * x - u) ** 2 + (abs(q) * y - v) ** 2)


class TestInBox(unittest.TestCase):

    def check(self, equation, answer, box):
        found = in_box(answer, box)
        self.assertIs(type(found), list)
        self.assertEqual(found, found_in(equation, box), (equation, box))
        for point in found:
            self.assertIs(type(point), tuple)

    def test_written_out(self):
        self.assertEqual(in_box(NONE, (-5, 5, -5, 5)), [])
        self.assertEqual(in_box(ALL, (1, 2, -1, 0)), [(1, -1), (1, 0), (2, -1), (2, 0)])
        self.assertEqual(in_box(("points", ((0, 1), (2, 3), (4, 5))), (0, 2, 2, 9)), [(2, 3)])
        self.assertEqual(in_box(solve((0, 1, 0, -1, -1, 1)), (0, 2, 0, 2)), [(0, 1), (1, 0), (1, 1), (1, 2), (2, 1)])
        self.assertEqual(in_box(solve((1, 0, 0, 0, -1, 0)), (-2, 9, -9, 4)), [(-2, 4), (-1, 1), (0, 0), (1, 1), (2, 4)])
        rows = solve((1, 0, -2, 0, 0, -1))
        self.assertEqual(in_box(rows, (-3, 17, 0, 12)), [(-3, 2), (-1, 0), (1, 0), (3, 2), (17, 12)])

    def test_each_kind_in_drawn_boxes(self):
        source = random.Random(311)
        seen = set()
        for equation in drawn_of_each_kind(source, 40):
            answer = solve(equation)
            seen.add(answer[0])
            for _ in range(3):
                x, y = source.randint(-15, 15), source.randint(-15, 15)
                self.check(equation, answer, (x, x + source.randint(0, 20), y, y + source.randint(0, 20)))
        self.assertEqual(seen | {"all"}, {"none", "all", "points", "lines", "curves", "rows"})

    def test_narrow_and_empty_boxes(self):
        for equation, _ in ONE_OF_EACH:
            answer = solve(equation)
            for x in range(-4, 5):
                for y in range(-4, 5):
                    self.check(equation, answer, (x, x, y, y))
                for low, high in ((-30, 30), (-30, 0), (0, 30), (-45, -5), (6, 45)):
                    self.check(equation, answer, (x, x + 1, low, high))
                    self.check(equation, answer, (low, high, x - 1, x))
            for box in ((1, 0, -9, 9), (-9, 9, 1, 0), (5, -5, 5, -5), (30, -30, 0, 0), (0, 0, 30, -30)):
                self.assertEqual(in_box(answer, box), [], (equation, box))

    def test_around_far_points(self):
        source = random.Random(312)
        for equation, word in ONE_OF_EACH:
            answer = solve(equation)
            if word not in ("lines", "curves", "rows"):
                continue
            for index in range(len(answer[-1])):
                for step in (-9, -2, 3, 8, source.randint(-7, 7)):
                    point = point_of(answer, (index, step))
                    if max(map(abs, point)) <= GREAT:
                        self.check(equation, answer, square_around(point, 7))
                        self.assertIn(point, in_box(answer, square_around(point, 0)))

    def test_boxes_far_from_the_origin(self):
        source = random.Random(313)
        for form in ((1, 0, -2), (1, 1, -1), (0, 1, 0), (1, 0, -1), (2, 1, 3)):
            for n in (0, 1, 28, -36, 95):
                x, y = source.randint(-4000, 4000), source.randint(-4000, 4000)
                equation = equation_around(form, (x, y), n)
                answer = solve(equation)
                self.check(equation, answer, square_around((x, y), 15))
                self.check(equation, answer, (0, 10, 0, 10))

    def test_a_million_wide(self):
        start = time.monotonic()
        wide = (-GREAT, 0, -GREAT, 0)
        for equation, count in (
            ((0, 0, 0, 1, 0, 3), GREAT + 1), ((0, 0, 0, 0, 1, 0), GREAT + 1), ((0, 0, 0, 1, -1, 0), GREAT + 1),
            ((0, 0, 0, 1000, -1, 0), GREAT // 1000 + 1), ((0, 0, 0, 1, 1, 5), 6), ((0, 1, 0, 0, 0, 0), 2 * GREAT + 1),
            ((1, 0, 0, 0, 1, 0), 1001), ((1, 0, 0, 0, 10 ** 4, 0), 1001), ((0, 0, 1, 1, 0, 0), 1001),
        ):
            found = in_box(solve(equation), wide)
            self.assertEqual(len(found), count, equation)
            self.assertEqual(found[:50], sorted(found[:50]))
            for x, y in found[::997]:
                self.assertEqual(left_side(equation, x, y), 0)
                self.assertTrue(is_inside((x, y), wide))
        self.assertLess(time.monotonic() - start, 60)

    def test_rows_in_wide_boxes_by_trying_all_y(self):
        for equation, box in (
            ((1, 0, -2, 0, 0, -7), (-GREAT, 0, -GREAT, -GREAT // 2)), ((1, 0, -2, 1, 1, 1), (0, GREAT, 0, GREAT // 4)),
            ((1, 1, -1, 0, 0, -209), (0, GREAT, -GREAT // 8, GREAT // 8)),
        ):
            found = in_box(solve(equation), box)
            expected = []
            a, b, c, d, e, f = equation
            for y in range(box[2], box[3] + 1, 1):
                D = (b * y + d) ** 2 - 4 * a * (c * y * y + e * y + f)
                if D >= 0 and D % 16 in (0, 1, 4, 9):
                    root = int(D ** 0.5)
                    root += (root + 1) ** 2 <= D
                    root -= root * root > D
                    if root * root == D:
                        for top in {-b * y - d - root, -b * y - d + root}:
                            if top % (2 * a) == 0 and box[0] <= top // (2 * a) <= box[1]:
                                expected.append((top // (2 * a), y))
            self.assertEqual(found, sorted(expected), equation)

    def test_all_in_a_great_box(self):
        found = in_box(ALL, (GREAT - 315, GREAT, -GREAT, -GREAT + 315))
        self.assertEqual(len(found), 316 * 316)
        self.assertEqual((found[0], found[-1]), ((GREAT - 315, -GREAT), (GREAT, -GREAT + 315)))

    def test_lists_are_new(self):
        for equation, _ in ONE_OF_EACH:
            answer = solve(equation)
            before = in_box(answer, (-5, 5, -5, 5))
            in_box(answer, (-5, 5, -5, 5)).clear()
            self.assertEqual(in_box(answer, (-5, 5, -5, 5)), before)


class TestNames(unittest.TestCase):

    def check_point(self, answer, point):
        """Check the name of a point of an answer and return it."""
        name = name_of(answer, point)
        self.assertIs(type(name), tuple, (answer, point))
        self.assertIs(type(point_of(answer, name)), tuple)
        self.assertEqual(point_of(answer, name), point)
        self.assertIs(tells(answer, point), True)
        return name

    def check_other(self, answer, point):
        self.assertIsNone(name_of(answer, point), (answer, point))
        self.assertIs(tells(answer, point), False)

    def test_written_out(self):
        answer = solve((1, 0, 1, 0, 0, -2))
        self.assertEqual([name_of(answer, point) for point in answer[1]], [(0, 0), (1, 0), (2, 0), (3, 0)])
        cross = solve((0, 1, 0, -1, -1, 1))
        self.assertEqual(cross[1], (((0, 1), (1, 0)), ((1, 0), (0, 1))))
        self.assertEqual(name_of(cross, (1, 1)), (0, 1))
        self.assertEqual(name_of(cross, (1, 7)), (1, 7))
        self.assertEqual(point_of(cross, (1, 1)), (1, 1))
        self.assertEqual(name_of(solve((1, 0, 0, 0, -3, -1)), (-4, 5)), (1, -2))
        rows = solve((1, 0, -2, 0, 0, -1))
        self.assertEqual([name_of(rows, point) for point in ((1, 0), (3, 2), (-99, 70), (17, -12), (-1, 0))],
                         [(1, 0), (1, 1), (0, -3), (1, -2), (0, 0)])
        self.assertEqual(point_of(rows, (0, -3)), (-99, 70))

    def test_none_and_all(self):
        for point in ((0, 0), (3, -5)):
            self.assertIsNone(name_of(ALL, point))
            self.assertIs(tells(ALL, point), True)
            self.check_other(NONE, point)

    def test_each_point_of_a_square(self):
        source = random.Random(321)
        square = [(x, y) for x in range(-9, 10) for y in range(-9, 10)]
        for equation in drawn_of_each_kind(source, 25):
            answer = solve(equation)
            if answer == ALL:
                continue
            names = []
            for point in square:
                if left_side(equation, *point) == 0:
                    names.append(self.check_point(answer, point))
                else:
                    self.check_other(answer, point)
            self.assertEqual(len(set(names)), len(names))

    def test_names_in_cut_answers(self):
        source = random.Random(324)
        square = [(x, y) for x in range(-9, 10) for y in range(-9, 10)]
        equations = [(0, 0, 0, 2, 0, 6), (0, 0, 0, 0, 3, -6), (0, 1, 0, -1, -1, 1), (1, 0, 0, 0, 0, -4)]
        for equation in equations + drawn_of_each_kind(source, 12):
            points = [point for point in square if left_side(equation, *point) == 0]
            if not points or solve(equation) == ALL:
                continue
            for modulus in (1, 2, 3):
                rests = source.choice(points)
                answer = cut(solve(equation), modulus, rests)
                for x, y in square:
                    if (x, y) in points and (x - rests[0]) % modulus == (y - rests[1]) % modulus == 0:
                        self.check_point(answer, (x, y))
                    else:
                        self.check_other(answer, (x, y))

    def test_where_lines_cross(self):
        source = random.Random(322)
        for _ in range(60):
            p, q, p2, q2 = [source.randint(-4, 4) for _ in range(4)]
            if p * q2 == q * p2:
                continue
            x, y = source.randint(-9, 9), source.randint(-9, 9)
            answer = solve(equation_around((p * p2, p * q2 + q * p2, q * q2), (x, y), 0))
            self.assertEqual(len(answer[1]), 2)
            index, step = self.check_point(answer, (x, y))
            self.assertEqual(index, 0)
            (px, py), (dx, dy) = answer[1][1]
            for n in range(-5, 6):
                point = (px + n * dx, py + n * dy)
                self.assertEqual(self.check_point(answer, point), (1, n) if point != (x, y) else (0, step))

    def test_names_lead_back(self):
        source = random.Random(323)
        for equation in drawn_of_each_kind(source, 20):
            answer = solve(equation)
            if answer[0] in ("none", "all", "points"):
                continue
            for index in range(len(answer[-1])):
                for step in (0, 1, -1, 2, -3, 17, -60, 60):
                    point = point_of(answer, (index, step))
                    self.assertEqual(left_side(equation, *point), 0)
                    other = name_of(answer, point)
                    if answer[0] != "lines" or other[0] == index:
                        self.assertEqual(other, (index, step), (equation, point))
                    x, y = point
                    for near in ((x + 1, y), (x, y - 1)):
                        self.assertIs(tells(answer, near), left_side(equation, *near) == 0)

    def test_steps_of_lines_and_curves_have_no_bound(self):
        for equation, word in ONE_OF_EACH:
            if word in ("lines", "curves"):
                answer = solve(equation)
                for step in (10 ** 1400, -10 ** 1400 - 1):
                    name = (len(answer[1]) - 1, step)
                    point = point_of(answer, name)
                    self.assertEqual(left_side(equation, *point), 0)
                    self.assertEqual(name_of(answer, point), name)
                    self.check_other(answer, (point[0] + 2, point[1] - 3))

    def test_points_of_rows_with_many_digits(self):
        for equation in ((1, 0, -2, 0, 0, -7), (1, 1, -1, 0, 0, -209), (15, 0, -30, 2, 4, -38), (1, 0, -421, 0, 0, -1)):
            answer = solve(equation)
            _, change, _, beginnings = answer
            for index, beginning in enumerate(beginnings):
                point = beginning
                steps = 0
                while len(bin(max(map(abs, point)))) < 9000:
                    point = moved_often(change, point, 60)
                    steps += 60
                self.assertEqual(name_of(answer, point), (index, steps))
                self.check_other(answer, (point[0], point[1] + 1))
                self.check_other(answer, (10 ** 2999, 10 ** 2998))

    def test_the_centre_of_rows(self):
        answer = solve((1, 0, -2, 0, 0, -7))
        self.check_other(answer, (0, 0))
        answer = solve(equation_around((1, 0, -2), (5, -8), 7))
        self.assertEqual(answer[2], (1, 5, -8))
        self.check_other(answer, (5, -8))

    def test_plain_walk_agrees(self):
        for equation, word in ONE_OF_EACH:
            if word == "rows":
                answer = solve(equation)
                _, change, _, beginnings = answer
                for index, beginning in enumerate(beginnings):
                    there = back = beginning
                    for step in range(1, 8):
                        there, back = carried_to(change, there), carried_back(change, back)
                        self.assertEqual(point_of(answer, (index, step)), there)
                        self.assertEqual(point_of(answer, (index, -step)), back)
                        self.assertEqual(name_of(answer, there), (index, step))
                        self.assertEqual(name_of(answer, back), (index, -step))
            elif word == "curves":
                for index, (xs, ys) in enumerate(solve(equation)[1]):
                    for n in range(-4, 5):
                        self.assertEqual(point_of(solve(equation), (index, n)), (row_value(xs, n), row_value(ys, n)))

    def test_what_is_told_in_a_square(self):
        for equation, word in ONE_OF_EACH:
            answer = solve(equation)
            self.assertEqual(answer[0], word)
            self.assertEqual(in_box(answer, (-9, 9, -9, 9)), told_in(answer, (-9, 9, -9, 9)))


if __name__ == "__main__":
    unittest.main()
