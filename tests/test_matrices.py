"""Point 3.1, and the interface of wholeconic/matrices.py."""

import random
import unittest

from tests.drawing import MIRROR, drawn_change, matrices_up_to
from wholeconic import matrices
from wholeconic.matrices import UNIT, apply, determinant, inverse, multiply, negative, raised

ODD_ONES = (
    UNIT, (-1, 0, 0, -1), MIRROR, (0, 1, 1, 0), (0, -1, 1, 0), (0, -1, 1, 1), (0, -1, 1, -1), (1, 5, 0, 1),
    (-1, 3, 0, -1), (2, 1, 1, 1), (-2, 1, -1, 0), (1, 1, 1, 0), (3, 2, 4, 3), (7, 5, -3, -2), (8, 3, 5, 2),
    (1, 2, 2, 3))
PRIME = 10 ** 9 + 7


class Checks(unittest.TestCase):

    def check_matrix(self, m):
        self.assertIs(type(m), tuple)
        self.assertEqual([type(number) for number in m], [int] * 4)

    def drawn(self, source, many, determinant):
        for _ in range(many):
            m = drawn_change(source, 6, 9)
            yield m if determinant == 1 else multiply(m, MIRROR)


class TestProducts(Checks):

    def test_unit(self):
        self.assertEqual(UNIT, (1, 0, 0, 1))
        self.check_matrix(matrices.UNIT)

    def test_written_out(self):
        self.assertEqual(multiply((1, 2, 3, 4), (5, 6, 7, 8)), (19, 22, 43, 50))
        self.assertEqual(multiply((5, 6, 7, 8), (1, 2, 3, 4)), (23, 34, 31, 46))
        self.assertEqual(determinant((1, 2, 3, 4)), -2)
        self.assertEqual(determinant((2, 4, 3, 6)), 0)
        self.assertEqual(apply((1, 2, 3, 4), (5, 6)), (17, 39))
        self.assertEqual(apply((0, -1, 1, 0), (1, 0)), (0, 1))
        self.assertEqual(negative((1, -2, 0, 4)), (-1, 2, 0, -4))

    def test_a_product_carries_as_the_left_one_behind_the_right_one(self):
        source = random.Random(31)
        for _ in range(500):
            m, n = [tuple(source.randint(-9, 9) for _ in range(4)) for _ in range(2)]
            point = (source.randint(-9, 9), source.randint(-9, 9))
            self.assertEqual(apply(multiply(m, n), point), apply(m, apply(n, point)))
            self.assertEqual(determinant(multiply(m, n)), determinant(m) * determinant(n))
            self.assertEqual(multiply(m, UNIT), m)
            self.assertEqual(multiply(UNIT, m), m)
            self.assertEqual(apply(negative(m), point), tuple(-number for number in apply(m, point)))

    def test_rows_and_columns(self):
        for m in ((1, 2, 3, 4), (-7, 0, 5, 11)):
            self.assertEqual(apply(m, (1, 0)), (m[0], m[2]))
            self.assertEqual(apply(m, (0, 1)), (m[1], m[3]))
            self.assertEqual(apply(m, (0, 0)), (0, 0))

    def test_kinds(self):
        self.check_matrix(multiply((1, 2, 3, 4), (5, 6, 7, 8)))
        self.check_matrix(negative((1, 2, 3, 4)))
        self.assertIs(type(apply(UNIT, (2, 3))), tuple)
        self.assertIs(type(determinant(UNIT)), int)

    def test_numbers_of_3000_digits(self):
        great = 10 ** 3000 - 1
        m = (great, great - 1, great + 2, great)
        self.assertEqual(determinant(m), great * great - (great - 1) * (great + 2))
        self.assertEqual(apply(m, (great, -1)), (great * great - great + 1, (great + 2) * great - great))
        self.assertEqual(apply(multiply(m, m), (1, 5)), apply(m, apply(m, (1, 5))))
        self.assertEqual(negative(negative(m)), m)


class TestInverse(Checks):

    def check(self, m):
        back = inverse(m)
        self.check_matrix(back)
        self.assertEqual(multiply(m, back), UNIT)
        self.assertEqual(multiply(back, m), UNIT)

    def test_all_small_ones(self):
        for sign in (1, -1):
            for m in matrices_up_to(3, sign):
                self.check(m)

    def test_written_out(self):
        self.assertEqual(inverse((2, 1, 1, 1)), (1, -1, -1, 2))
        self.assertEqual(inverse((1, 1, 1, 0)), (0, 1, 1, -1))
        self.assertEqual(inverse(MIRROR), MIRROR)

    def test_great_numbers(self):
        great = 10 ** 2999 + 7
        for m in ((1, great, 0, 1), (great, great + 1, great - 1, great), (great, 1, 1, 0), (0, 1, -1, -great)):
            self.check(m)


class TestRaised(Checks):

    def check_by_multiplying(self, m, limit):
        forth = back = UNIT
        for many in range(limit + 1):
            self.check_matrix(raised(m, many))
            self.assertEqual(raised(m, many), forth, (m, many))
            self.assertEqual(raised(m, -many), back, (m, -many))
            forth, back = multiply(forth, m), multiply(back, inverse(m))

    def test_small_exponents_by_multiplying(self):
        for m in ODD_ONES:
            self.check_by_multiplying(m, 40)

    def test_all_small_matrices(self):
        for sign in (1, -1):
            for m in matrices_up_to(2, sign):
                self.check_by_multiplying(m, 7)

    def test_drawn_matrices(self):
        source = random.Random(32)
        for sign in (1, -1):
            for m in self.drawn(source, 40, sign):
                self.check_by_multiplying(m, 12)

    def test_written_out(self):
        self.assertEqual(raised((2, 1, 1, 1), 3), (13, 8, 8, 5))
        self.assertEqual(raised((1, 1, 1, 0), 5), (8, 5, 5, 3))
        self.assertEqual(raised((1, 1, 1, 0), -1), (0, 1, 1, -1))
        self.assertEqual(raised((1, 1, 1, 0), 0), UNIT)
        self.assertEqual(raised((1, 7, 0, 1), -1000), (1, -7000, 0, 1))

    def test_exponents_at_the_bound_and_beyond(self):
        for m in ODD_ONES:
            power = UNIT
            for many in range(1, 1003):
                power = multiply(power, m)
                if many in (511, 512, 513, 999, 1000, 1001, 1002):
                    self.assertEqual(raised(m, many), power, (m, many))
                    self.assertEqual(raised(m, -many), inverse(power), (m, -many))

    def test_numbers_of_3000_digits(self):
        great = 10 ** 2999 + 7
        for m in ((great, great + 1, great - 1, great), (great, 1, 1, 0), (0, 1, -1, -great)):
            self.check_by_multiplying(m, 5)
        self.assertEqual(raised((1, great, 0, 1), 1000), (1, 1000 * great, 0, 1))
        self.assertEqual(raised((-1, great, 0, -1), -999), (-1, -999 * great, 0, -1))

    def test_numbers_of_3000_digits_at_the_bound(self):
        great = 10 ** 2999 + 7
        m = (great, great + 1, great - 1, great)
        small = tuple(number % PRIME for number in m)
        power = UNIT
        for _ in range(1000):
            power = tuple(number % PRIME for number in multiply(power, small))
        self.assertEqual(tuple(number % PRIME for number in raised(m, 1000)), power)

    def test_what_is_passed_may_come_again(self):
        m = (2, 1, 1, 1)
        self.assertEqual(raised(m, 9), raised(m, 9))
        self.assertEqual(m, (2, 1, 1, 1))


if __name__ == "__main__":
    unittest.main()
