"""Points 7.1 and 7.2: equations in other unknowns."""

import random
import unittest

from tests.drawing import drawn_change, matrices_up_to
from tests.searching import left_side
from wholeconic.changes import change_equation, new_point, old_point, scale_equation, turn_over

SMALL_POINTS = [(x, y) for x in range(-2, 3) for y in range(-2, 3)]


def drawn_equation(source, size):
    return tuple(source.randint(-size, size) for _ in range(6))


class TestChangeEquation(unittest.TestCase):

    def check(self, equation, m, shift):
        other = change_equation(equation, m, shift)
        self.assertIs(type(other), tuple)
        self.assertEqual(len(other), 6)
        # Six points that lie on no curve of second degree tell the six numbers; these 25 have such ones.
        for x, y in SMALL_POINTS:
            old_x = m[0] * x + m[1] * y + shift[0]
            old_y = m[2] * x + m[3] * y + shift[1]
            self.assertEqual(left_side(other, x, y), left_side(equation, old_x, old_y), (equation, m, shift))

    def test_written_out(self):
        self.assertEqual(change_equation((1, 0, -2, 0, 0, -1), (1, 0, 0, 1), (3, 2)), (1, 0, -2, 6, -8, 0))
        self.assertEqual(change_equation((1, 2, 3, 4, 5, 6), (1, 0, 0, 1), (0, 0)), (1, 2, 3, 4, 5, 6))
        self.assertEqual(change_equation((1, 2, 3, 4, 5, 6), (0, 1, 1, 0), (0, 0)), (3, 2, 1, 5, 4, 6))
        self.assertEqual(change_equation((1, 2, 3, 4, 5, 6), (0, 0, 0, 0), (1, 1)), (0, 0, 0, 0, 0, 21))
        self.assertEqual(change_equation((0, 0, 0, 2, -3, 1), (1, 2, 3, 4), (5, 6)), (0, 0, 0, -7, -8, -7))

    def test_any_matrix(self):
        source = random.Random(91)
        for m in matrices_up_to(1, 1) + matrices_up_to(1, -1) + matrices_up_to(1, 0) + matrices_up_to(2, 6):
            for _ in range(3):
                self.check(drawn_equation(source, 9), m, (source.randint(-9, 9), source.randint(-9, 9)))

    def test_many_digits(self):
        source = random.Random(92)
        for digits in (20, 1000):
            big = [source.randrange(-10 ** digits, 10 ** digits) for _ in range(12)]
            self.check(tuple(big[:6]), tuple(big[6:10]), tuple(big[10:]))

    def test_list_as_equation(self):
        equation = [1, 2, 3, 4, 5, 6]
        self.check(equation, (2, 1, 1, 1), (3, -3))
        self.assertEqual(equation, [1, 2, 3, 4, 5, 6])


class TestPoints(unittest.TestCase):

    def test_written_out(self):
        self.assertEqual(old_point((1, 2, 3, 4), (5, 6), (7, 8)), (28, 59))
        self.assertEqual(old_point((0, 0, 0, 0), (5, 6), (7, 8)), (5, 6))
        self.assertEqual(new_point((2, 1, 1, 1), (5, 6), (28, 59)), (-30, 83))
        self.assertEqual(new_point((0, 1, 1, 0), (5, 6), (7, 9)), (3, 2))

    def test_there_and_back(self):
        source = random.Random(93)
        for m in matrices_up_to(2, 1) + matrices_up_to(2, -1):
            for point in SMALL_POINTS[::5]:
                shift = (source.randint(-9, 9), source.randint(-9, 9))
                there = old_point(m, shift, point)
                self.assertIs(type(there), tuple)
                self.assertEqual(there[0], m[0] * point[0] + m[1] * point[1] + shift[0])
                self.assertEqual(there[1], m[2] * point[0] + m[3] * point[1] + shift[1])
                back = new_point(m, shift, there)
                self.assertIs(type(back), tuple)
                self.assertEqual(back, point)
                self.assertEqual(old_point(m, shift, new_point(m, shift, point)), point)

    def test_many_digits(self):
        source = random.Random(94)
        m = drawn_change(source, 40, 10 ** 30)
        shift, point = [tuple(source.randrange(10 ** 2000) for _ in range(2)) for _ in range(2)]
        self.assertEqual(new_point(m, shift, old_point(m, shift, point)), point)


class TestScaleAndTurn(unittest.TestCase):

    def test_scale(self):
        self.assertEqual(scale_equation((1, 2, 3, -4, 0, 6), -3), (-3, -6, -9, 12, 0, -18))
        self.assertEqual(scale_equation((1, 2, 3, -4, 0, 6), 0), (0, 0, 0, 0, 0, 0))
        self.assertEqual(scale_equation([1, 2, 3, -4, 0, 6], 1), (1, 2, 3, -4, 0, 6))
        self.assertEqual(
            scale_equation((1, 0, 0, 0, 0, -1), 10 ** 2000), (10 ** 2000, 0, 0, 0, 0, -10 ** 2000))

    def test_turn(self):
        self.assertEqual(turn_over((1, 2, 3, 4, 5, 6)), (3, 2, 1, 5, 4, 6))
        self.assertEqual(turn_over([1, 2, 3, 4, 5, 6]), (3, 2, 1, 5, 4, 6))
        source = random.Random(95)
        for _ in range(30):
            equation = drawn_equation(source, 20)
            for x, y in SMALL_POINTS:
                self.assertEqual(left_side(turn_over(equation), x, y), left_side(equation, y, x))


if __name__ == "__main__":
    unittest.main()
