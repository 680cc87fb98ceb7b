"""Point 7.5: the points of an answer that leave rests, held against plain search."""

import random
import unittest

from tests.searching import (
    carried_back, carried_size, carried_to, drawn_of_each_kind, found_in, left_side, row_value, square_around,
    told_parts)
from wholeconic.answers import in_box, name_of, point_of
from wholeconic.congruent import cut
from wholeconic.conic import ALL, NONE, solve
from wholeconic.errors import BadForm, ConicError

SQUARE = (-20, 20, -20, 20)


def leaves(point, modulus, rests):
    return (point[0] - rests[0]) % modulus == 0 and (point[1] - rests[1]) % modulus == 0


def thinned(row, modulus, n):
    """Return the row with the values at n, n + modulus and n + 2 * modulus of another one at 0, 1 and 2."""
    zero, one, two = [row_value(row, n + modulus * k) for k in range(3)]
    half = (two - 2 * one + zero) // 2
    return (half, one - zero - half, zero)


def change_power(change, many):
    """Return a power of a change, by its doing at (0, 0), (1, 0) and (0, 1)."""
    places = [(0, 0), (1, 0), (0, 1)]
    for _ in range(many):
        places = [carried_to(change, place) for place in places]
    (right, up), (x, y), (x2, y2) = places
    return ((x - right, x2 - right, y - up, y2 - up), (right, up))


class TestCut(unittest.TestCase):

    def check(self, equation, answer, modulus, rests, box=SQUARE):
        found = cut(answer, modulus, rests)
        self.assertIs(type(found), tuple)
        if found != NONE:
            checks = {
                "points": self.check_points, "lines": self.check_curves, "curves": self.check_curves,
                "rows": self.check_rows}
            checks[answer[0]](answer, found, modulus, rests)
        elif answer[0] in ("lines", "curves"):
            self.assertEqual(self.expected_curves(answer, modulus, rests), ())
        told = sorted(point for part in told_parts(found, box) for point in part)
        expected = [point for point in in_box(answer, box) if leaves(point, modulus, rests)]
        self.assertEqual(sorted(set(told)), expected, (equation, modulus, rests))
        self.assertEqual(in_box(found, box), expected)
        if answer[0] in ("points", "rows"):
            self.assertEqual(len(told), len(expected))
        return found

    def check_points(self, answer, found, modulus, rests):
        self.assertEqual(found, ("points", tuple(point for point in answer[1] if leaves(point, modulus, rests))))

    def expected_curves(self, answer, modulus, rests):
        expected = []
        for part in answer[1]:
            if answer[0] == "lines":
                (x, y), (dx, dy) = part
                part = ((0, dx, x), (0, dy, y))
            for n in range(modulus):
                if leaves((row_value(part[0], n), row_value(part[1], n)), modulus, rests):
                    expected.append((thinned(part[0], modulus, n), thinned(part[1], modulus, n)))
        return tuple(expected)

    def check_curves(self, answer, found, modulus, rests):
        self.assertEqual(found, ("curves", self.expected_curves(answer, modulus, rests)))

    def check_rows(self, answer, found, modulus, rests):
        word, change, triple, beginnings = found
        self.assertEqual((word, triple), ("rows", answer[2]))
        many = 1
        power = answer[1]
        while any(not leaves(carried_to(power, place), modulus, place) for place in ((0, 0), (1, 0), (0, 1))):
            many += 1
            power = change_power(answer[1], many)
        self.assertEqual(change, power)
        self.assertEqual([type(part) for part in (change, change[0], change[1], beginnings)], [tuple] * 4)
        self.assertEqual(list(beginnings), sorted(set(beginnings)))
        self.assertGreater(len(beginnings), 0)
        for point in beginnings:
            self.assertTrue(leaves(point, modulus, rests))
            self.assertIsNotNone(name_of(answer, point))
            for step in (carried_to, carried_back):
                there = step(change, point)
                self.assertTrue(leaves(there, modulus, rests))
                self.assertGreater((carried_size(triple, there), there), (carried_size(triple, point), point))
        # Each row of the new change that leaves the rests is told once.
        expected = 0
        for index in range(len(answer[3])):
            for step in range(many):
                point = answer[3][index]
                for _ in range(step):
                    point = carried_to(answer[1], point)
                if leaves(point, modulus, rests):
                    expected += 1
                    self.assertIsNotNone(name_of(found, point))
        self.assertEqual(len(beginnings), expected)

    def test_written_out(self):
        answer = solve((1, 0, 1, 0, 0, -25))
        self.assertEqual(cut(answer, 5, (0, 0)), ("points", ((-5, 0), (0, -5), (0, 5), (5, 0))))
        self.assertEqual(cut(answer, 5, (10, -15)), cut(answer, 5, (0, 0)))
        self.assertEqual(cut(answer, 5, (1, 0)), NONE)
        self.assertEqual(cut(NONE, 7, (1, 2)), NONE)
        line = solve((0, 0, 0, 1, -1, 0))
        self.assertEqual(cut(line, 3, (2, 2)), ("curves", (((0, 3, 2), (0, 3, 2)),)))
        self.assertEqual(cut(line, 3, (1, 2)), NONE)
        self.assertEqual(cut(line, 1, (1, 2)), ("curves", (((0, 1, 0), (0, 1, 0)),)))
        curve = solve((1, 0, 0, 0, -1, 0))
        self.assertEqual(cut(curve, 3, (2, 1)), ("curves", (((0, 3, 2), (9, 12, 4)),)))
        self.assertEqual(cut(curve, 4, (0, 0)), ("curves", (((0, 4, 0), (16, 0, 0)),)))
        rows = solve((1, 0, -2, 0, 0, -1))
        self.assertEqual(cut(rows, 1, (5, 5)), rows)
        self.assertEqual(cut(rows, 2, (1, 0)), rows)
        self.assertEqual(cut(rows, 2, (0, 0)), NONE)
        self.assertEqual(cut(rows, 3, (0, 0)), NONE)
        self.assertEqual(
            cut(rows, 3, (1, 0)), ("rows", ((577, 816, 408, 577), (0, 0)), (1, 0, 0), ((-17, -12), (1, 0))))

    def test_all_is_refused(self):
        for modulus in (1, 2, 60):
            with self.assertRaises(BadForm) as caught:
                cut(ALL, modulus, (0, 0))
            self.assertEqual(caught.exception.what, modulus)
            self.assertIsInstance(caught.exception, ConicError)

    def test_each_kind_and_small_moduli(self):
        source = random.Random(401)
        seen = {}
        for equation in drawn_of_each_kind(source, 100):
            answer = solve(equation)
            if answer == ALL:
                continue
            points = found_in(equation, (-12, 12, -12, 12))
            for modulus in (1, source.randint(2, 5), source.randint(6, 12)):
                rests = source.choice(points) if points else (0, 0)
                if source.random() < 0.3:
                    rests = (rests[0] + modulus * source.randint(-9, 9), source.randint(-30, 30))
                found = self.check(equation, answer, modulus, rests)
                key = (answer[0], found[0])
                seen[key] = seen.get(key, 0) + 1
        for word in ("points", "lines", "curves", "rows"):
            self.assertGreater(seen[(word, "curves" if word == "lines" else word)], 10)
            self.assertGreater(seen[(word, "none")], 3)

    def test_all_rests_of_one_modulus_share_the_points(self):
        for equation in ((1, 0, -2, 0, 0, -7), (1, 0, -2, 1, 1, 1), (1, 0, 0, 0, -3, -1), (0, 1, 0, -1, -1, 1),
                         (1, 0, 1, 0, 0, -25), (0, 0, 0, 2, 3, 1), (5, 0, -10, 1, 2, 2)):
            answer = solve(equation)
            self.assertNotEqual(answer, NONE)
            for modulus in (1, 2, 3, 4, 6):
                told = []
                for x in range(modulus):
                    for y in range(modulus):
                        told += in_box(self.check(equation, answer, modulus, (x, y)), SQUARE)
                self.assertEqual(sorted(told), found_in(equation, SQUARE))

    def test_great_moduli(self):
        source = random.Random(402)
        for equation in (
            (1, 0, -2, 0, 0, -7), (1, 1, -1, 0, 0, 1), (1, 0, -94, 0, 0, -1), (1, 0, -2, 1, 1, 1), (3, 1, -5, 2, 0, 7),
            (1, 0, 0, 0, -3, -1), (4, 4, 1, 3, -1, -5), (0, 1, 0, -1, -1, 1), (0, 0, 0, 7, -60, 1),
            (1, 0, 1, 0, 0, -3025),
        ):
            answer = solve(equation)
            for modulus in (60, 59, 49, 32, 27, 53):
                if answer[0] == "points":
                    rests = source.choice(answer[1])
                elif answer != NONE:
                    rests = point_of(answer, (source.randrange(len(answer[-1])), source.randint(-9, 9)))
                    rests = (rests[0] % modulus, rests[1] % modulus)
                else:
                    rests = (1, 1)
                found = self.check(equation, answer, modulus, rests)
                self.assertEqual(found == NONE, answer == NONE)

    def test_cut_again(self):
        source = random.Random(403)
        for equation in drawn_of_each_kind(source, 20) + [(1, 0, -2, 0, 0, -7), (1, 0, 0, 0, -3, -1)]:
            answer = solve(equation)
            if answer in (ALL, NONE):
                continue
            first = answer[1][0] if answer[0] == "points" else point_of(answer, (0, 1))
            for modulus, other in ((2, 3), (3, 2), (4, 2), (2, 4), (5, 5), (6, 10)):
                once = self.check(equation, answer, modulus, first)
                twice = self.check(equation, once, other, first)
                self.assertNotEqual(twice, NONE)
                both = cut(answer, modulus * other, first)
                if modulus % other != 0 and other % modulus != 0 and other % 2 != modulus % 2:
                    # Without a common measure of the moduli it is the same as to be cut by their product.
                    self.assertEqual(in_box(twice, SQUARE), in_box(both, SQUARE))
                self.check(equation, once, other, (first[0] + 1, first[1]))

    def test_cut_rows_cut_once_more_are_those_of_the_product(self):
        for equation in ((1, 0, -2, 0, 0, -7), (1, 1, -1, 0, 0, 1), (1, 0, -3, 0, 0, 2), (2, 0, -6, 2, 0, -4)):
            answer = solve(equation)
            self.assertEqual(answer[0], "rows")
            for rests in (answer[3][0], answer[3][-1]):
                twice = cut(cut(answer, 4, rests), 9, rests)
                # The change may be another power, but it leaves the same points.
                box = (-5000, 5000, -5000, 5000)
                self.assertEqual(in_box(twice, box), in_box(cut(answer, 36, rests), box))
                self.assertEqual(twice, cut(answer, 36, rests))

    def test_the_power_is_that_of_all_pairs_of_integers(self):
        # All points of this answer are even already, but the change exchanges the rests of other pairs.
        rows = solve((1, 0, -3, 0, 0, -4))
        self.assertEqual(rows, ("rows", ((2, 3, 1, 2), (0, 0)), (1, 0, 0), ((-2, 0), (2, 0))))
        found = self.check((1, 0, -3, 0, 0, -4), rows, 2, (0, 0))
        self.assertEqual(
            found, ("rows", ((7, 12, 4, 7), (0, 0)), (1, 0, 0), ((-4, -2), (-2, 0), (2, 0), (4, -2))))
        rows = solve((1, 0, -2, 0, 0, -4))
        for modulus in (2, 4, 8):
            self.check((1, 0, -2, 0, 0, -4), rows, modulus, (2, 0))
        shifted = solve((1, 0, -2, 4, 4, -5))
        for modulus in (2, 3, 4, 5, 7):
            for rests in shifted[3]:
                self.check((1, 0, -2, 4, 4, -5), shifted, modulus, rests)

    def test_far_from_the_origin(self):
        for equation, centre in (
            ((1, 0, -2, -6000, 16000, -23000007), (3000, 4000)), ((1, 0, 0, -4000, -3, 4000000), (2000, 0)),
        ):
            answer = solve(equation)
            box = square_around(centre, 20)
            for modulus in (2, 3, 7):
                for rests in found_in(equation, box)[:3]:
                    self.check(equation, answer, modulus, rests, box)

    def test_arguments_are_not_changed(self):
        answer = solve((1, 0, -2, 0, 0, -7))
        before = repr(answer)
        cut(answer, 5, (1, 2))
        self.assertEqual(repr(answer), before)

    def test_points_of_far_rows(self):
        answer = solve((1, 0, -2, 0, 0, -7))
        found = cut(answer, 7, (3, 1))
        for index in range(len(found[3])):
            for step in (-30, 5, 60):
                point = point_of(found, (index, step))
                self.assertEqual(left_side((1, 0, -2, 0, 0, -7), *point), 0)
                self.assertTrue(leaves(point, 7, (3, 1)))
                self.assertEqual(name_of(found, point), (index, step))


if __name__ == "__main__":
    unittest.main()
