"""Points 1.2 and 1.3, and the interface of wholeconic/residues.py."""

import random
import unittest

from wholeconic import residues
from wholeconic.residues import count_roots, is_residue, square_roots

SMALL_PRIMES = (3, 5, 7, 11, 13, 17, 19, 23, 29, 31, 37, 41, 43, 47, 53, 59, 61, 67, 71, 73, 79, 83, 89, 97, 257)


def roots_by_trying(m):
    """Return for each rest modulo m the list of its square roots."""
    found = [[] for _ in range(m)]
    for x in range(m):
        found[x * x % m].append(x)
    return found


class Checks(unittest.TestCase):

    def check(self, d, m):
        """Check all that can be seen without trying all x, and return the roots."""
        roots = square_roots(d, m)
        self.assertIs(type(roots), list)
        self.assertEqual(roots, sorted(set(roots)))
        for x in roots:
            self.assertIs(type(x), int)
            self.assertTrue(0 <= x < m)
            self.assertEqual((x * x - d) % m, 0)
        many = count_roots(d, m)
        self.assertIs(type(many), int)
        self.assertEqual(many, len(roots), (d, m))
        return roots

    def check_all_rests(self, m, shift=0):
        expected = roots_by_trying(m)
        for d in range(m):
            self.assertEqual(self.check(d + shift * m, m), expected[d], (d, m))


class TestByTryingAll(Checks):

    def test_small_moduli(self):
        for m in range(1, 200):
            self.check_all_rests(m)

    def test_rests_below_zero(self):
        for m in range(1, 70):
            self.check_all_rests(m, shift=-1)
            self.check_all_rests(m, shift=-5)

    def test_powers_of_two(self):
        for k in range(0, 12):
            self.check_all_rests(2 ** k)

    def test_powers_of_odd_primes(self):
        for m in (3 ** 5, 3 ** 6, 5 ** 4, 7 ** 3, 11 ** 3, 13 ** 2, 31 ** 2):
            self.check_all_rests(m)

    def test_products_of_powers(self):
        for m in (2 ** 4 * 3 ** 3, 2 ** 3 * 5 ** 2 * 7, 3 ** 2 * 5 ** 2, 720, 2 ** 6 * 9, 1155):
            self.check_all_rests(m)

    def test_greater_moduli_at_some_rests(self):
        for m in (65536, 59049, 72072, 99225, 65537, 96800):
            expected = roots_by_trying(m)
            for d in [*range(-40, 100), m // 2, m // 4, m // 9, m - 1]:
                self.assertEqual(self.check(d, m), expected[d % m], (d, m))


class TestEdges(Checks):

    def test_modulus_one(self):
        for d in (0, 1, -1, 12, -10 ** 2999):
            self.assertEqual(square_roots(d, 1), [0])
            self.assertEqual(count_roots(d, 1), 1)

    def test_written_out(self):
        self.assertEqual(square_roots(0, 2), [0])
        self.assertEqual(square_roots(3, 4), [])
        self.assertEqual(square_roots(1, 8), [1, 3, 5, 7])
        self.assertEqual(square_roots(-1, 5), [2, 3])
        self.assertEqual(square_roots(0, 16), [0, 4, 8, 12])
        self.assertEqual(square_roots(4, 32), [2, 6, 10, 14, 18, 22, 26, 30])
        self.assertEqual(square_roots(9, 27), [3, 6, 12, 15, 21, 24])

    def test_numbers_of_3000_digits(self):
        for d in (10 ** 3000 - 1, -(10 ** 3000 - 1), 2 ** 9900, -(3 ** 6000)):
            for m in (1, 2, 64, 97, 3 ** 8, 720720, 10 ** 8, 99999989):
                self.assertEqual(self.check(d, m), square_roots(d % m, m))

    def test_answers_are_new_lists(self):
        for d, m in ((0, 1), (1, 8), (0, 9), (3, 4)):
            first = square_roots(d, m)
            expected = list(first)
            first.append(-1)
            self.assertEqual(square_roots(d, m), expected)


class TestAtTheBound(Checks):

    def test_great_primes(self):
        # Among these are primes p with high powers of 2 in p - 1.
        for p in (99999989, 99999971, 69206017, 23068673, 7340033, 99999941, 67108859, 12289, 65537):
            for x in (1, 2, 3, 1234567, p - 5, p // 2):
                roots = self.check(x * x, p)
                self.assertEqual(roots, sorted({x % p, -x % p}))
            self.assertEqual(square_roots(0, p), [0])
            found = sum(len(self.check(d, p)) for d in range(2, 42))
            self.assertTrue(0 < found < 80)

    def test_primes_beyond_the_bound(self):
        for p in (9999999967, 998244353, 3221225473):
            for x in (5, 123456789):
                self.assertEqual(self.check(x * x, p), sorted({x % p, -x % p}))

    def test_all_roots_of_zero(self):
        self.assertEqual(square_roots(0, 10 ** 8), list(range(0, 10 ** 8, 10 ** 4)))
        self.assertEqual(count_roots(0, 10 ** 8), 10 ** 4)
        self.assertEqual(square_roots(0, 9999 ** 2), list(range(0, 9999 ** 2, 9999)))
        self.assertEqual(square_roots(0, 9973 ** 2), list(range(0, 9973 ** 2, 9973)))

    def test_great_powers_of_two(self):
        self.assertEqual(len(self.check(1, 2 ** 26)), 4)
        self.assertEqual(len(self.check(17, 2 ** 26)), 4)
        self.assertEqual(len(self.check(2 ** 22 * 9, 2 ** 26)), 4 * 2 ** 11)
        self.assertEqual(len(self.check(2 ** 24 * 9, 2 ** 26)), 2 * 2 ** 12)
        self.assertEqual(len(self.check(2 ** 24, 2 ** 25)), 2 ** 12)
        self.assertEqual(self.check(2 ** 24 * 3, 2 ** 26), [])
        self.assertEqual(self.check(2 ** 23, 2 ** 26), [])
        self.assertEqual(self.check(5, 2 ** 26), [])

    def test_great_powers_of_odd_primes(self):
        for p, k in ((3, 16), (5, 11), (7, 9), (11, 7), (97, 4), (463, 3), (9973, 2)):
            for x in (1, 2, p + 1, p * 4, p ** (k // 2) * 2):
                self.assertIn(x, self.check(x * x, p ** k))
            self.assertEqual(self.check(p, p ** k), [])
            self.assertEqual(len(self.check(p * p, p ** k)), (2 if k > 2 else 1) * p)

    def test_many_primes(self):
        m = 2 * 3 * 5 * 7 * 11 * 13 * 17 * 19
        self.assertEqual(len(self.check(1, m)), 2 ** 7)
        self.assertEqual(len(self.check(0, m)), 1)
        self.assertEqual(len(self.check(4, 8 * 3 * 5 * 7 * 11 * 13 * 17 * 19)), 2 * 2 ** 7)
        self.assertEqual(count_roots(1, 24 * 5 * 7 * 11 * 13 * 17), 4 * 2 ** 6)

    def test_shared_measures(self):
        self.assertEqual(len(self.check(900, 900 * 900)), 4 * 6 * 10)
        self.assertEqual(len(self.check(36 * 25, 36 * 25 * 49)), len(self.check(0, 900)) * 2)

    def test_random_numbers(self):
        source = random.Random(3)
        for _ in range(300):
            m = source.randrange(1, 10 ** 8)
            x = source.randrange(m)
            self.assertIn(x, self.check(x * x - source.randrange(-9, 9) * m, m))
            self.check(source.randrange(-m, m), m)


class TestResidues(unittest.TestCase):

    def test_all_rests_of_small_primes(self):
        for p in SMALL_PRIMES:
            squares = {x * x % p for x in range(1, p)}
            for d in range(-2 * p, 2 * p):
                if d % p != 0:
                    self.assertIs(is_residue(d, p), d % p in squares, (d, p))

    def test_great_primes(self):
        for p in (99999989, 69206017, 9999999967):
            for x in (1, 2, 98765, p - 1):
                self.assertIs(is_residue(x * x, p), True)
                self.assertIs(is_residue(x * x - 7 * p, p), True)
            self.assertIs(is_residue(-1, p), p % 4 == 1)
            self.assertIs(is_residue(2, p), p % 8 in (1, 7))

    def test_numbers_of_3000_digits(self):
        for d in (10 ** 3000 - 1, -(10 ** 3000 - 3)):
            for p in (7, 10007, 99999989):
                if d % p != 0:
                    self.assertIs(is_residue(d, p), is_residue(d % p, p))


class TestPlaces(unittest.TestCase):

    def test_functions_are_defined_in_their_file(self):
        for one in (square_roots, count_roots, is_residue):
            self.assertEqual(one.__module__, residues.__name__)


if __name__ == "__main__":
    unittest.main()
