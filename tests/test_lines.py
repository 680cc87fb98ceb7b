"""Points 7.2: lines, integer roots and rows of polynomials."""

import math
import random
import unittest

from wholeconic.lines import line_of, quadratic_roots, settled_line, step_on, value_at

FEW = range(-7, 8)


def directions_up_to(limit):
    numbers = range(-limit, limit + 1)
    return [
        (dx, dy) for dx in range(limit + 1) for dy in numbers
        if math.gcd(dx, dy) == 1 and (dx > 0 or dy == 1)]


class Checks(unittest.TestCase):

    def check_line(self, line):
        self.assertIs(type(line), tuple)
        (x, y), (dx, dy) = line
        self.assertIs(type(line[0]), tuple)
        self.assertIs(type(line[1]), tuple)
        self.assertEqual(math.gcd(dx, dy), 1)
        if dx == 0:
            self.assertEqual((dy, y), (1, 0))
        else:
            self.assertTrue(0 <= x < dx, line)


class TestLineOf(Checks):

    def test_written_out(self):
        for numbers, line in (
            ((1, -1, 0), ((0, 0), (1, 1))), ((1, 1, 0), ((0, 0), (1, -1))), ((2, 4, 1), None),
            ((0, 3, 6), ((0, -2), (1, 0))), ((0, 3, 5), None), ((3, 0, 6), ((-2, 0), (0, 1))), ((-3, 0, 5), None),
            ((3, -2, 1), ((1, 2), (2, 3))), ((6, -4, 2), ((1, 2), (2, 3))), ((-6, 4, -2), ((1, 2), (2, 3))),
        ):
            self.assertEqual(line_of(*numbers), line, numbers)

    def test_small_numbers_by_trying_all(self):
        square = [(x, y) for x in range(-14, 15) for y in range(-14, 15)]
        for d in FEW:
            for e in FEW:
                if (d, e) == (0, 0):
                    continue
                for f in FEW:
                    line = line_of(d, e, f)
                    points = [point for point in square if d * point[0] + e * point[1] + f == 0]
                    if line is None:
                        self.assertEqual(points, [])
                        continue
                    self.check_line(line)
                    (x, y), (dx, dy) = line
                    told = [(x + n * dx, y + n * dy) for n in range(-50, 51)]
                    told = sorted(point for point in told if max(map(abs, point)) <= 14)
                    self.assertEqual(told, points, (d, e, f))

    def test_many_digits(self):
        source = random.Random(81)
        for digits in (10, 300, 3000):
            for _ in range(4):
                d, e, x, y = [source.randrange(-10 ** digits, 10 ** digits) for _ in range(4)]
                line = line_of(d, e, -d * x - e * y)
                self.check_line(line)
                (x0, y0), (dx, dy) = line
                self.assertEqual(d * (x - x0) + e * (y - y0), 0)
                self.assertEqual(d * dx + e * dy, 0)
                self.assertEqual(step_on(line, (x, y)) * dx, x - x0)
                self.assertIsNone(line_of(2 * d, 6 * e, 2 * (d * x + e * y) + 1))


class TestSettledLine(Checks):

    def test_written_out(self):
        for point, direction, start in (
            ((7, 5), (2, 3), (1, -4)), ((-1, 0), (2, 3), (1, 3)), ((4, 9), (1, 0), (0, 9)), ((4, 9), (0, 1), (4, 0)),
            ((4, 9), (1, -2), (0, 17)), ((0, 0), (3, 1), (0, 0)), ((2, -5), (3, 1), (2, -5)), ((3, 0), (3, 1), (0, -1)),
        ):
            self.assertEqual(settled_line(point, direction), (start, direction))

    def test_all_points_of_a_line_have_the_same_one(self):
        for direction in directions_up_to(5):
            for x in FEW:
                line = settled_line((x, 3), direction)
                self.check_line(line)
                self.assertEqual(line[1], direction)
                self.assertIn((x, 3), [
                    (line[0][0] + n * direction[0], line[0][1] + n * direction[1]) for n in range(-10, 11)])
                for n in (-9, -1, 1, 4):
                    moved = (x + n * direction[0], 3 + n * direction[1])
                    self.assertEqual(settled_line(moved, direction), line)

    def test_many_digits(self):
        source = random.Random(82)
        for _ in range(10):
            x, y, dx, dy = [source.randrange(10 ** 2999, 10 ** 3000) for _ in range(4)]
            g = math.gcd(dx, dy)
            line = settled_line((-x, y), (dx // g, dy // g))
            self.check_line(line)
            self.assertIsNotNone(step_on(line, (-x, y)))


class TestStepOn(Checks):

    def test_each_point_of_a_square(self):
        for direction in directions_up_to(4):
            line = settled_line((2, -1), direction)
            (x, y), (dx, dy) = line
            steps = {(x + n * dx, y + n * dy): n for n in range(-20, 21)}
            for point in [(x, y) for x in range(-9, 10) for y in range(-9, 10)]:
                self.assertEqual(step_on(line, point), steps.get(point), (line, point))

    def test_many_digits(self):
        source = random.Random(83)
        for direction in directions_up_to(9):
            line = settled_line((source.randrange(10 ** 50), source.randrange(10 ** 50)), direction)
            (x, y), (dx, dy) = line
            for n in (10 ** 2990, -10 ** 2990, source.randrange(10 ** 100), 0, -1):
                self.assertEqual(step_on(line, (x + n * dx, y + n * dy)), n)
                self.assertIsNone(step_on(line, (x + n * dx + dy, y + n * dy - dx)))


class TestQuadraticRoots(Checks):

    def test_written_out(self):
        for numbers, roots in (
            ((1, 0, -4), [-2, 2]), ((-1, 0, 4), [-2, 2]), ((1, 0, 0), [0]), ((1, -2, 1), [1]), ((2, -5, 2), [2]),
            ((4, 0, -1), []), ((1, 0, 1), []), ((1, 0, -2), []), ((0, 3, 6), [-2]), ((0, 3, 5), []), ((0, -3, 6), [2]),
            ((0, 5, 0), [0]), ((6, 5, 1), []), ((-2, 2, 0), [0, 1]), ((4, 4, 1), []),
        ):
            found = quadratic_roots(*numbers)
            self.assertIs(type(found), list)
            self.assertEqual(found, roots, numbers)

    def test_small_numbers_by_trying_all(self):
        for a in FEW:
            for b in FEW:
                if (a, b) == (0, 0):
                    continue
                for c in range(-20, 21):
                    # A root other than 0 measures c, and one of c == 0 is 0 or -b / a.
                    expected = [t for t in range(-21, 22) if a * t * t + b * t + c == 0]
                    self.assertEqual(quadratic_roots(a, b, c), expected, (a, b, c))

    def test_many_digits(self):
        source = random.Random(84)
        for digits in (20, 400, 1000, 1499):
            for _ in range(4):
                s, t, g = [source.randrange(-10 ** digits, 10 ** digits) for _ in range(3)]
                self.assertEqual(quadratic_roots(g, -g * (s + t), g * s * t), sorted([s, t]))
                self.assertEqual(quadratic_roots(g, -2 * g * t, g * t * t), [t])
                self.assertEqual(quadratic_roots(g, -g * (s + t), g * s * t + 1), [])
                self.assertEqual(quadratic_roots(2, -2 * s - 1, s), [s])
                self.assertEqual(quadratic_roots(0, g, -g * t), [t])


class TestValueAt(Checks):

    def test_by_the_definition(self):
        self.assertEqual([value_at((1, -3, 2), n) for n in range(-2, 4)], [12, 6, 2, 0, 0, 2])
        self.assertEqual([value_at((0, 0, -5), n) for n in (-3, 0, 8)], [-5, -5, -5])
        self.assertEqual(value_at((2, 3, 4), 10 ** 1000), 2 * 10 ** 2000 + 3 * 10 ** 1000 + 4)
        for r in FEW:
            for s in FEW:
                for n in (-4, -1, 0, 1, 3):
                    self.assertEqual(value_at((r, s, 9), n), r * n ** 2 + s * n + 9)


if __name__ == "__main__":
    unittest.main()
