"""Points 2.1 to 2.4, and the interface of wholeconic/fractions.py."""

import math
import random
import unittest

from wholeconic import fractions
from wholeconic.errors import BadForm, BadText, ConicError
from wholeconic.fractions import convergents, expand, part_at, pell


def is_whole_square(n):
    return n >= 0 and math.isqrt(n) ** 2 == n


def at_most(k, p, q, d):
    """Return True if k <= (p + w) / q, compared without any rounding."""
    low = k * q - p
    below = low < 0 or low * low < d
    return below if q > 0 else not below


def next_pair(part, p, q, d):
    p2 = part * q - p
    return p2, (d - p2 * p2) // q


def part_by_trying(p, q, d):
    part = 0
    while not at_most(part, p, q, d):
        part -= 1
    while at_most(part + 1, p, q, d):
        part += 1
    return part


def parts_by_trying(p, q, d):
    """Return (first parts, period) by the words of points 2.1 and 2.2."""
    pairs, parts = [], []
    while (p, q) not in pairs:
        pairs.append((p, q))
        parts.append(part_by_trying(p, q, d))
        p, q = next_pair(parts[-1], p, q, d)
    first = pairs.index((p, q))
    return tuple(parts[:first]), tuple(parts[first:])


def is_shortest(expansion):
    """Return True if no shorter expansion has the same parts."""
    first, period = expansion
    if first and first[-1] == period[-1]:
        return False
    many = len(period)
    return not any(many % k == 0 and period == period[:k] * (many // k) for k in range(1, many))


class Checks(unittest.TestCase):

    def check_kinds(self, expansion):
        self.assertIs(type(expansion), tuple)
        self.assertEqual(len(expansion), 2)
        for parts in expansion:
            self.assertIs(type(parts), tuple)
            for part in parts:
                self.assertIs(type(part), int)
        self.assertTrue(expansion[1])

    def check_great(self, p, q, d):
        """Check an expansion part by part, and that behind the period the same pair comes again."""
        expansion = expand(p, q, d)
        self.check_kinds(expansion)
        self.assertTrue(is_shortest(expansion))
        first, period = expansion
        for part in first:
            self.assertTrue(at_most(part, p, q, d) and not at_most(part + 1, p, q, d))
            p, q = next_pair(part, p, q, d)
        begin = (p, q)
        for part in period:
            self.assertTrue(at_most(part, p, q, d) and not at_most(part + 1, p, q, d))
            p, q = next_pair(part, p, q, d)
        self.assertEqual((p, q), begin)
        return expansion


class TestExpand(Checks):

    def test_written_out(self):
        self.assertEqual(expand(0, 1, 14), ((3,), (1, 2, 1, 6)))
        self.assertEqual(expand(0, 1, 2), ((1,), (2,)))
        self.assertEqual(expand(1, 2, 5), ((), (1,)))
        self.assertEqual(expand(3, 1, 14), ((), (6, 1, 2, 1)))
        self.assertEqual(expand(-1, 2, 5), ((0,), (1,)))
        self.assertEqual(expand(0, -1, 2), ((-2, 1, 1), (2,)))
        self.assertEqual(expand(0, 7, 14), ((0, 1), (1, 6, 1, 2)))

    def test_all_small_numbers_by_trying_all(self):
        for d in range(2, 24):
            if is_whole_square(d):
                continue
            for p in range(-9, 10):
                for q in range(-20, 21):
                    if q != 0 and (d - p * p) % q == 0:
                        expansion = expand(p, q, d)
                        self.check_kinds(expansion)
                        self.assertEqual(expansion, parts_by_trying(p, q, d), (p, q, d))
                        self.assertTrue(is_shortest(expansion), (p, q, d))

    def test_roots_of_greater_numbers(self):
        for d in range(24, 400):
            if not is_whole_square(d):
                self.assertEqual(expand(0, 1, d), parts_by_trying(0, 1, d))

    def test_signs(self):
        for p in (-1000000, -999, -1, 0, 1, 999, 1000000):
            for d in (2, 999999, 999983):
                for q in (1, -1, d - p * p, p * p - d):
                    self.check_great(p, q, d)

    def test_at_the_bound(self):
        for d in (999999, 999998, 999997, 999983, 999979, 998001 + 1):
            self.check_great(0, 1, d)
            self.check_great(10 ** 6, -1, d)

    def test_random_numbers_at_the_bound(self):
        source = random.Random(4)
        many = 0
        while many < 150:
            p = source.randrange(-10 ** 6, 10 ** 6 + 1)
            q = source.choice((1, -1)) * source.randrange(1, 10 ** 6 + 1)
            # A number with the rest of p * p modulo q, so that q measures d - p * p.
            d = p * p % abs(q) + abs(q) * source.randrange(0, 3)
            if d <= 10 ** 6 and not is_whole_square(d):
                self.check_great(p, q, d)
                many += 1

    def test_long_first_parts(self):
        # 832040 and 514229 follow one another in 1, 1, 2, 3, 5, 8, ..
        expansion = self.check_great(832040, 514229, 832040 ** 2 % 514229)
        self.assertGreater(len(expansion[0]), 5)


class TestRefusals(Checks):

    def refused(self, p, q, d):
        with self.assertRaises(BadForm) as caught:
            expand(p, q, d)
        self.assertIs(type(caught.exception), BadForm)
        self.assertIsInstance(caught.exception, ConicError)
        self.assertNotIsInstance(caught.exception, BadText)
        self.assertEqual(caught.exception.what, q)
        self.assertIs(type(caught.exception.what), int)

    def test_squares(self):
        for root in (0, 1, 2, 3, 10, 999, 1000):
            for p, q in ((0, 1), (1, 1), (-5, -1), (root, 7), (0, 0), (10 ** 6, -10 ** 6)):
                self.refused(p, q, root * root)

    def test_neighbours_of_squares_are_answered(self):
        for root in (2, 3, 10, 999):
            self.check_great(0, 1, root * root - 1)
            self.check_great(0, 1, root * root + 1)

    def test_zero(self):
        for p, d in ((0, 2), (3, 14), (-7, 999999), (2, 4), (0, 0)):
            self.refused(p, 0, d)

    def test_numbers_that_do_not_measure(self):
        for p, q, d in ((0, 3, 14), (1, 2, 14), (0, -3, 2), (-4, 5, 2), (10 ** 6, 10 ** 6, 999999), (0, 4, 2)):
            self.refused(p, q, d)

    def test_exactly_the_others_are_refused(self):
        for d in range(0, 12):
            for p in range(-4, 5):
                for q in range(-9, 10):
                    if q == 0 or is_whole_square(d) or (d - p * p) % q != 0:
                        self.refused(p, q, d)
                    else:
                        self.check_great(p, q, d)


class TestConvergents(Checks):

    def test_written_out(self):
        self.assertEqual(convergents((3, 1)), [(3, 1), (4, 1)])
        self.assertEqual(convergents([3, 1, 2, 1]), [(3, 1), (4, 1), (11, 3), (15, 4)])
        self.assertEqual(convergents([-2, 1, 1, 2]), [(-2, 1), (-1, 1), (-3, 2), (-7, 5)])
        self.assertEqual(convergents([0]), [(0, 1)])
        self.assertEqual(convergents([0, 0, 5]), [(0, 1), (1, 0), (5, 1)])

    def test_no_parts(self):
        self.assertEqual(convergents([]), [])
        self.assertEqual(convergents(()), [])

    def test_kinds_and_rule(self):
        source = random.Random(5)
        for kind in (list, tuple):
            parts = [source.randrange(-9, 10) for _ in range(40)]
            given = kind(parts)
            found = convergents(given)
            self.assertEqual(given, kind(parts))
            self.assertIs(type(found), list)
            before = [(0, 1), (1, 0), *found]
            for k, pair in enumerate(found):
                self.assertIs(type(pair), tuple)
                self.assertEqual(pair, tuple(parts[k] * b + a for a, b in zip(before[k], before[k + 1])))
                self.assertTrue(all(type(n) is int for n in pair))

    def test_numbers_of_3000_digits(self):
        great = 10 ** 3000 - 1
        self.assertEqual(convergents((great, -great)), [(great, 1), (1 - great * great, -great)])

    def test_many_parts(self):
        found = convergents([1] * 5000)
        self.assertEqual(len(found), 5000)
        self.assertEqual(found[9], (89, 55))

    def test_answers_are_new_lists(self):
        first = convergents([])
        first.append(1)
        self.assertEqual(convergents([]), [])


class TestPartAt(Checks):

    def test_written_out(self):
        expansion = ((3,), (1, 2, 1, 6))
        self.assertEqual([part_at(expansion, k) for k in range(10)], [3, 1, 2, 1, 6, 1, 2, 1, 6, 1])

    def test_all_lengths(self):
        for many in range(0, 5):
            for length in range(1, 5):
                expansion = (tuple(range(10, 10 + many)), tuple(range(50, 50 + length)))
                parts = expansion[0] + expansion[1] * 9
                for k, part in enumerate(parts):
                    self.assertEqual(part_at(expansion, k), part)
                    self.assertIs(type(part_at(expansion, k)), int)

    def test_far_behind(self):
        expansion = ((3,), (1, 2, 1, 6))
        self.assertEqual(part_at(expansion, 4 * 10 ** 2999), 6)
        self.assertEqual(part_at(expansion, 4 * 10 ** 2999 + 2), 2)
        self.assertEqual(part_at(((), (7,)), 10 ** 3000 - 1), 7)
        self.assertEqual(part_at(((9, 8), (4, 5)), 10 ** 12), 4)
        self.assertEqual(part_at(((9, 8), (4, 5)), 10 ** 12 + 1), 5)


def pell_by_trying(d, bound):
    for y in range(1, bound):
        if is_whole_square(d * y * y + 1):
            return math.isqrt(d * y * y + 1), y
    return None


def pell_by_the_cyclic_way(d):
    """Return the least solution by Bhaskara's method, which takes no continued fraction."""
    root = math.isqrt(d)
    x = min((root, root + 1), key=lambda n: abs(n * n - d))
    y, k = 1, x * x - d
    while k != 1:
        base = abs(k)
        rest = next(m for m in range(base) if (x + y * m) % base == 0)
        low = root - (root - rest) % base
        m = min([n for n in (low, low + base) if n > 0], key=lambda n: abs(n * n - d))
        x, y, k = (x * m + d * y) // base, (x + y * m) // base, (m * m - d) // k
        x, y = abs(x), abs(y)
    return x, y


class TestPell(Checks):

    def check(self, d):
        answer = pell(d)
        self.assertIs(type(answer), tuple)
        self.assertTrue(all(type(n) is int and n > 0 for n in answer))
        x, y = answer
        self.assertEqual(x * x - d * y * y, 1)
        return answer

    def test_written_out(self):
        self.assertEqual(pell(2), (3, 2))
        self.assertEqual(pell(3), (2, 1))
        self.assertEqual(pell(5), (9, 4))
        self.assertEqual(pell(61), (1766319049, 226153980))
        self.assertEqual(pell(109), (158070671986249, 15140424455100))
        self.assertEqual(pell(9999), (100, 1))

    def test_least_by_trying_all(self):
        for d in range(2, 200):
            if not is_whole_square(d):
                found = pell_by_trying(d, 3000)
                answer = self.check(d)
                if found is None:
                    self.assertGreaterEqual(answer[1], 3000)
                else:
                    self.assertEqual(answer, found)

    def test_least_by_another_way(self):
        for d in range(2, 10 ** 4, 3):
            if not is_whole_square(d):
                self.assertEqual(self.check(d), pell_by_the_cyclic_way(d), d)

    def test_neighbours_of_squares(self):
        for root in range(2, 100):
            self.assertEqual(self.check(root * root - 1), (root, 1))
            self.assertEqual(self.check(root * root + 1), (2 * root * root + 1, 2 * root))

    def test_all_numbers_up_to_the_bound(self):
        for d in range(2, 10 ** 4 + 1):
            if not is_whole_square(d):
                self.check(d)


class TestPlaces(unittest.TestCase):

    def test_functions_are_defined_in_their_file(self):
        for one in (expand, convergents, part_at, pell):
            self.assertEqual(one.__module__, fractions.__name__)


if __name__ == "__main__":
    unittest.main()
