"""Points 0.3, 0.4, 0.5 and 1.1, and the interface of wholeconic/numbers.py."""

import math
import random
import unittest

from wholeconic import numbers
from wholeconic.numbers import (
    bezout, floor_root, is_prime, is_square, measure, power, power_modulo, prime_parts, square_measures, taken_out)

GREAT = 10 ** 3000 - 1
LIMIT = 10 ** 10


def measures_by_trying(n):
    return [g for g in range(1, abs(n) + 1) if n % g == 0]


def is_prime_by_trying(n):
    return n > 1 and all(n % k for k in range(2, math.isqrt(n) + 1))


class Checks(unittest.TestCase):

    def assert_integer(self, value):
        self.assertIs(type(value), int)

    def assert_integers(self, values):
        for value in values:
            self.assert_integer(value)


class TestBezout(Checks):

    def check(self, a, b):
        answer = bezout(a, b)
        self.assertIs(type(answer), tuple)
        self.assertEqual(len(answer), 3)
        self.assert_integers(answer)
        g, u, v = answer
        self.assertEqual(g, math.gcd(a, b))
        self.assertEqual(u * a + v * b, g)

    def test_small_pairs_of_all_signs(self):
        for a in range(-30, 31):
            for b in range(-30, 31):
                self.check(a, b)

    def test_zeros(self):
        self.assertEqual(bezout(0, 0)[0], 0)
        self.assertEqual(bezout(0, -5)[0], 5)
        self.assertEqual(bezout(-5, 0)[0], 5)

    def test_numbers_of_3000_digits(self):
        source = random.Random(1)
        for many in (20, 500, 3000):
            a = source.randrange(10 ** many)
            b = source.randrange(10 ** many)
            for pair in ((a, b), (-a, b), (a, -b), (-a, -b), (a, 0), (0, -a), (a, a), (a, 1), (-1, b)):
                self.check(*pair)
        self.check(GREAT, GREAT - 1)
        self.check(-GREAT, 10 ** 1500 - 1)

    def test_longest_way(self):
        a, b = 1, 1
        while b < 10 ** 2999:
            a, b = b, a + b
        self.check(a, b)
        self.check(b, -a)


class TestMeasure(Checks):

    def test_lists_and_tuples(self):
        for kind in (list, tuple):
            for numbers_, expected in (
                ([], 0), ([0], 0), ([0, 0, 0], 0), ([1], 1), ([-1], 1), ([5], 5), ([-5], 5), ([0, -4], 4),
                ([-4, 0], 4), ([12, 18], 6), ([-12, 18, -30], 6), ([6, 10, 15], 1), ([6, 10, 15, 0], 1),
                ([4, 4], 4), ([2, 4, 8], 2), ([8, 4, 2], 2),
            ):
                answer = measure(kind(numbers_))
                self.assertEqual(answer, expected, numbers_)
                self.assert_integer(answer)

    def test_small_triples_by_trying_all(self):
        for a in range(-6, 7):
            for b in range(-6, 7):
                for c in range(-6, 7):
                    common = [g for g in range(1, 7) if a % g == b % g == c % g == 0]
                    expected = max(common) if (a, b, c) != (0, 0, 0) else 0
                    self.assertEqual(measure([a, b, c]), expected)

    def test_numbers_of_3000_digits(self):
        self.assertEqual(measure([GREAT]), GREAT)
        self.assertEqual(measure((-GREAT, 0)), GREAT)
        self.assertEqual(measure([10 ** 2999, -6 ** 3000, 0, 2 ** 9000]), 2 ** 2999)

    def test_argument_is_left_as_it_was(self):
        given = [12, -18, 0]
        measure(given)
        self.assertEqual(given, [12, -18, 0])

    def test_many_numbers(self):
        self.assertEqual(measure(list(range(0, 300000, 3))), 3)


class TestRoots(Checks):

    def test_floor_root_small(self):
        for n in range(3000):
            root = floor_root(n)
            self.assert_integer(root)
            self.assertTrue(root >= 0 and root * root <= n < (root + 1) * (root + 1), n)

    def test_floor_root_of_squares_and_their_neighbours(self):
        for root in (1, 2, 3, 10 ** 5, 10 ** 8 + 1, 2 ** 53 + 1, 10 ** 40 + 7, 10 ** 1500 - 1):
            self.assertEqual(floor_root(root * root), root)
            self.assertEqual(floor_root(root * root - 1), root - 1)
            self.assertEqual(floor_root(root * root + 1), root)
            self.assertEqual(floor_root(root * root + 2 * root), root)
        self.assertEqual(floor_root(GREAT), 10 ** 1500 - 1)

    def test_is_square_small(self):
        squares = {k * k for k in range(100)}
        for n in range(-200, 9000):
            self.assertIs(is_square(n), n in squares, n)

    def test_is_square_of_great_numbers(self):
        for root in (10 ** 5, 2 ** 53 + 1, 10 ** 40 + 7, 10 ** 1500 - 1):
            self.assertIs(is_square(root * root), True)
            self.assertIs(is_square(root * root + 1), False)
            self.assertIs(is_square(root * root - 1), False)
            self.assertIs(is_square(-root * root), False)
        self.assertIs(is_square(GREAT), False)
        self.assertIs(is_square(-GREAT), False)


class TestPowers(Checks):

    def test_power(self):
        for base in range(-4, 5):
            for many in range(0, 12):
                self.assertEqual(power(base, many), base ** many)

    def test_power_modulo(self):
        for base in (-7, 0, 1, 5, 10 ** 30):
            for many in (0, 1, 2, 3, 31, 10 ** 12):
                for modulus in (2, 9, 97, 10 ** 10 + 19):
                    self.assertEqual(power_modulo(base, many, modulus), pow(base, many, modulus))

    def test_taken_out(self):
        self.assertEqual(taken_out(7, 2), (0, 7))
        self.assertEqual(taken_out(-48, 2), (4, -3))
        self.assertEqual(taken_out(3 ** 20, 3), (20, 1))


class TestPrimes(Checks):

    def test_small_numbers_by_trying_all(self):
        for n in range(0, 20000):
            self.assertIs(is_prime(n), is_prime_by_trying(n), n)

    def test_numbers_near_the_bound_by_trying_all(self):
        for n in [*range(LIMIT - 60, LIMIT + 61), *range(2 ** 31 - 9, 2 ** 31 + 9)]:
            self.assertIs(is_prime(n), is_prime_by_trying(n), n)

    def test_squares_and_products_of_primes(self):
        for n in (97 ** 2, 99989 ** 2, 99991 * 99989, 65537 ** 2, 41 * 43, 3 * 3333333333):
            self.assertIs(is_prime(n), False)

    def test_composites_that_pass_tests_with_few_bases(self):
        pseudo = (2047, 1373653, 25326001, 3215031751, 2152302898747, 561, 1105, 8911, 825265, 9746347772161)
        for n in pseudo:
            self.assertIs(is_prime(n), False, n)

    def test_known_primes(self):
        for n in (2, 3, 37, 41, 9999999967, 2147483647, 99999989, 999999999989):
            self.assertIs(is_prime(n), True, n)

    def test_zero_and_one(self):
        self.assertIs(is_prime(0), False)
        self.assertIs(is_prime(1), False)


class TestPrimeParts(Checks):

    def check(self, n):
        parts = prime_parts(n)
        self.assertIs(type(parts), list)
        product = 1
        for pair in parts:
            self.assertIs(type(pair), tuple)
            self.assert_integers(pair)
            prime, exponent = pair
            self.assertTrue(is_prime_by_trying(prime), n)
            self.assertGreaterEqual(exponent, 1)
            product *= prime ** exponent
        self.assertEqual(product, n)
        primes = [prime for prime, exponent in parts]
        self.assertEqual(primes, sorted(set(primes)))

    def test_written_out(self):
        self.assertEqual(prime_parts(1), [])
        self.assertEqual(prime_parts(2), [(2, 1)])
        self.assertEqual(prime_parts(360), [(2, 3), (3, 2), (5, 1)])
        self.assertEqual(prime_parts(LIMIT), [(2, 10), (5, 10)])
        self.assertEqual(prime_parts(9999999967), [(9999999967, 1)])
        self.assertEqual(prime_parts(99991 * 99989), [(99989, 1), (99991, 1)])
        self.assertEqual(prime_parts(99991 ** 2), [(99991, 2)])
        self.assertEqual(prime_parts(6469693230), [(p, 1) for p in (2, 3, 5, 7, 11, 13, 17, 19, 23, 29)])

    def test_small_numbers(self):
        for n in range(1, 5000):
            self.check(n)

    def test_prime_powers(self):
        for prime in (2, 3, 5, 7, 41, 43, 97, 1009, 46337, 99991):
            exponent = 1
            while prime ** exponent <= LIMIT:
                self.assertEqual(prime_parts(prime ** exponent), [(prime, exponent)])
                exponent += 1

    def test_numbers_near_the_bound(self):
        for n in range(LIMIT - 40, LIMIT + 41):
            self.check(n)

    def test_random_numbers(self):
        source = random.Random(2)
        for bound in (10 ** 6, LIMIT):
            for _ in range(60):
                self.check(source.randrange(1, bound))

    def test_answers_are_new_lists(self):
        for n in (1, 12):
            first = prime_parts(n)
            expected = list(first)
            first.append("changed")
            self.assertEqual(prime_parts(n), expected)


class TestSquareMeasures(Checks):

    def test_small_numbers_by_trying_all(self):
        for n in range(1, 1500):
            expected = [g for g in measures_by_trying(n) if n % (g * g) == 0]
            for number in (n, -n):
                answer = square_measures(number)
                self.assertEqual(answer, expected, number)
                self.assertIs(type(answer), list)
                self.assert_integers(answer)

    def test_written_out(self):
        self.assertEqual(square_measures(1), [1])
        self.assertEqual(square_measures(-1), [1])
        self.assertEqual(square_measures(-72), [1, 2, 3, 6])
        self.assertEqual(square_measures(9999999967), [1])
        self.assertEqual(square_measures(-(99991 ** 2)), [1, 99991])

    def test_at_the_bound(self):
        expected = sorted(2 ** a * 5 ** b for a in range(6) for b in range(6))
        self.assertEqual(square_measures(LIMIT), expected)
        self.assertEqual(square_measures(-LIMIT), expected)

    def test_answers_are_new_lists(self):
        first = square_measures(36)
        first.append(0)
        self.assertEqual(square_measures(36), [1, 2, 3, 6])


class TestPlaces(unittest.TestCase):

    def test_functions_are_defined_in_their_file(self):
        for one in (bezout, measure, floor_root, is_square, prime_parts, is_prime, square_measures):
            self.assertEqual(one.__module__, numbers.__name__)


if __name__ == "__main__":
    unittest.main()
