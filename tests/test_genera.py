"""Points 5.4 and 5.5, and the interface of wholeconic/genera.py."""

import math
import random
import unittest

from tests.drawing import discriminant_of, drawn_change, drawn_great_form, form_behind, is_whole_square, value_of
from wholeconic.classes import class_power, classes, compose, opposite, principal
from wholeconic.genera import class_order, genus, same_genus, squares
from wholeconic.numbers import prime_parts

LIMIT = 10 ** 10
SMALL = [d for d in range(-260, 261) if d % 4 in (0, 1) and not is_whole_square(d)]


def signs_by_words(d, n):
    """Return the tuple of the signs of point 5.4 for one value n."""
    signs = []
    for p, _ in prime_parts(abs(d)):
        if p % 2 == 1:
            signs.append(1 if any((x * x - n) % p == 0 for x in range(p)) else -1)
    fourth = 1 if n % 4 == 1 else -1
    eighth = 1 if n % 8 == 1 or n % 8 == 7 else -1
    at_2 = {
        1: [], 5: [], 3: [fourth], 4: [fourth], 7: [fourth], 6: [fourth * eighth], 2: [eighth], 0: [fourth, eighth]}
    return tuple(signs + (at_2[d // 4 % 8] if d % 2 == 0 else []))


def values_apart(form, reach):
    """Return the list of the values of a form, at small points, that share no measure with 2 * d."""
    d = discriminant_of(form)
    values = [value_of(form, x, y) for x in range(-reach, reach + 1) for y in range(0, reach + 1)]
    return [n for n in values if math.gcd(n, 2 * d) == 1]


class Checks(unittest.TestCase):

    def check_genus(self, form):
        found = genus(form)
        self.assertIs(type(found), tuple)
        for sign in found:
            self.assertIs(type(sign), int)
            self.assertIn(sign, (1, -1))
        return found


class TestGenus(Checks):

    def test_written_out(self):
        for form, expected in (
            ((1, 0, 5), (1, 1)), ((2, 2, 3), (-1, -1)), ((1, 1, 6), (1,)), ((2, 1, 3), (1,)), ((1, 1, 4), (1, 1)),
            ((2, 1, 2), (-1, -1)), ((1, 0, 1), (1,)), ((1, 0, 2), (1,)), ((1, 0, 3), (1,)), ((1, 0, 4), (1,)),
            ((1, 0, 6), (1, 1)), ((2, 0, 3), (-1, -1)), ((1, 0, -3), (1, 1)), ((-1, 0, 3), (-1, -1)),
            ((1, 0, -2), (1,)), ((1, 0, -10), (1, 1)), ((2, 0, -5), (-1, -1)), ((1, 1, -1), (1,)),
            ((1, 0, 8), (1, 1)), ((3, 2, 3), (-1, -1)), ((1, 0, 21), (1, 1, 1)), ((2, 2, 11), (-1, 1, -1)),
            ((3, 0, 7), (1, -1, -1)), ((5, 4, 5), (-1, -1, 1)), ((1, 0, 16), (1, 1)), ((4, 4, 5), (1, -1)),
        ):
            self.assertEqual(self.check_genus(form), expected, form)

    def test_the_signs_of_all_values(self):
        rests = set()
        for d in SMALL:
            for form in classes(d):
                found = self.check_genus(form)
                values = values_apart(form, 6)
                self.assertTrue(values, form)
                for n in values:
                    self.assertEqual(signs_by_words(d, n), found, (form, n))
            rests.add((d > 0, d % 2, d // 4 % 8))
        # All rests of d // 4 modulo 8 have come, for odd and even d, above and below 0.
        self.assertEqual(len(rests), 32)

    def test_the_principal_form_has_no_sign_below_0(self):
        for d in SMALL:
            self.assertEqual(set(genus(principal(d))) - {1}, set())

    def test_the_same_after_drawn_changes(self):
        source = random.Random(91)
        for d in SMALL[::4]:
            for form in classes(d):
                for steps in (2, 7, 15):
                    other = form_behind(form, drawn_change(source, steps, 9))
                    self.assertEqual(genus(other), genus(form))
                    self.assertIs(same_genus(other, form), True)

    def test_at_the_bounds(self):
        source = random.Random(92)
        for form in (
            (1, 0, 250000), (1, 1, 250000), (3, 0, 83333), (4, 4, 62501), (2, 0, 124999), (16, 0, 15625),
            (1, 1, -2442), (50, 0, -49), (1, 0, -2499), (3, 97, -49), (1, 99, -49), (8, 0, 31249), (1, 1, 127628),
        ):
            d = discriminant_of(form)
            found = self.check_genus(form)
            for n in values_apart(form, 4):
                self.assertEqual(signs_by_words(d, n), found, (form, n))
            self.assertEqual(genus(drawn_great_form(source, form, LIMIT)), found)

    def test_many_primes(self):
        for form, many in (
            ((1, 1, 63814), 6), ((1, 0, 30030), 6), ((1, 0, 15015), 5), ((1, 0, 240240), 7), ((7, 7, 9118), 6),
            ((2, 0, 15015), 6), ((105, 0, 286), 6), ((16, 0, 15015), 7),
        ):
            found = self.check_genus(form)
            self.assertEqual(len(found), many, form)
            for n in values_apart(form, 30)[:40]:
                self.assertEqual(signs_by_words(discriminant_of(form), n), found, (form, n))


class TestSameGenus(Checks):

    def test_exactly_if_the_quotient_is_a_square(self):
        for d in SMALL + [-420, -660, -1155, -1365, 420, 520, 840, 1365]:
            found = classes(d)
            quadrates = squares(d)
            for form in found:
                for other in found:
                    quotient = compose(form, opposite(other))[0]
                    self.assertIs(same_genus(form, other), quotient in quadrates, (form, other))

    def test_written_out(self):
        self.assertIs(same_genus((1, 1, 6), (2, 1, 3)), True)
        self.assertIs(same_genus((1, 0, 5), (2, 2, 3)), False)
        self.assertIs(same_genus((1, 0, 5), (5, 0, 1)), True)
        self.assertIs(same_genus((1, 0, -3), (-1, 0, 3)), False)
        self.assertIs(same_genus((1, 0, 14), (2, 0, 7)), True)
        self.assertIs(same_genus((1, 0, 14), (3, 2, 5)), False)

    def test_at_the_bounds(self):
        self.assertIs(same_genus((1, 1, 250000), (7, 1, 35714)), genus((1, 1, 250000)) == genus((7, 1, 35714)))


class TestSquares(Checks):

    def test_written_out(self):
        for d, expected in (
            (-23, [(1, 1, 6), (2, -1, 3), (2, 1, 3)]), (-20, [(1, 0, 5)]), (-56, [(1, 0, 14), (2, 0, 7)]),
            (-3, [(1, 1, 1)]), (12, [(-2, 2, 1)]), (40, [(-1, 6, 1)]), (-84, [(1, 0, 21)]),
        ):
            self.assertEqual(squares(d), expected, d)

    def test_small_discriminants_by_trying_all(self):
        for d in SMALL:
            found = squares(d)
            self.assertIs(type(found), list)
            expected = {class_power(form, 2) for form in classes(d)}
            self.assertEqual(found, sorted(expected))
            # The squares are one genus, and each genus has as many classes.
            self.assertEqual(found, [form for form in classes(d) if genus(form) == genus(principal(d))])
            self.assertEqual(len(classes(d)), len(found) * len({genus(form) for form in classes(d)}))

    def test_at_the_bound(self):
        for d in (-4000, -3999, -3996, -3995, -3911, 3997, 3996, 4000, 3993, 3992):
            found = squares(d)
            self.assertEqual(found, [form for form in classes(d) if genus(form) == genus(principal(d))])
            self.assertEqual(found, sorted(found))

    def test_lists_are_new(self):
        squares(-23).clear()
        self.assertEqual(len(squares(-23)), 3)


class TestClassOrder(Checks):

    def test_written_out(self):
        for form, many in (
            ((1, 1, 6), 1), ((2, 1, 3), 3), ((2, -1, 3), 3), ((2, 2, 3), 2), ((6, 1, 1), 1), ((2, 1, 6), 5),
            ((3, 2, 5), 4), ((2, 0, 7), 2), ((1, 0, -2), 1), ((-1, 0, 3), 2), ((1, 0, -3), 1), ((2, 0, -5), 2),
            ((2, 1, 9), 7), ((2, 1, 25), 9),
        ):
            found = class_order(form)
            self.assertIs(type(found), int)
            self.assertEqual(found, many, form)

    def test_small_discriminants_by_trying_all(self):
        for d in SMALL + [-311, -420, 229, 401, 520, 577]:
            found = classes(d)
            for form in found:
                many = class_order(form)
                self.assertGreaterEqual(many, 1)
                self.assertEqual(len(found) % many, 0)
                powers = [class_power(form, k) for k in range(1, many + 1)]
                self.assertEqual([power == principal(d) for power in powers], [False] * (many - 1) + [True])

    def test_at_the_bounds(self):
        for form in ((2, 1, 125000), (3, 1, 83333), (3, 2, 83333), (17, 5, 14700), (3, 97, -49), (2, 1, -1221)):
            target = principal(discriminant_of(form))
            many = class_order(form)
            power = compose(form, target)[0]
            for _ in range(many - 1):
                self.assertNotEqual(power, target)
                power = compose(power, form)[0]
            self.assertEqual(power, target)


if __name__ == "__main__":
    unittest.main()
