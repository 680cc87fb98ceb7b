"""Points 8.1 to 8.3: papers and the judge, held against a plain reading of what a right paper is."""

import math
import random
import time
import unittest

from tests.drawing import determinant_of, discriminant_of, form_behind, forms_up_to, kind_of, product_of
from tests.searching import drawn_of_each_kind, equation_around, equation_through, plain_centre, within_bounds
from wholeconic.alike import canonical_form, proper_change, self_group
from wholeconic.changes import change_equation
from wholeconic.conic import ALL, NONE, solve
from wholeconic.indefinite import cycle
from wholeconic.matrices import raised
from wholeconic.papers import PLAIN, judge, paper_of

GREAT = 10 ** 199 + 7


def plain_case(equation):
    """Return (form, n) of point 8.1, divided by the content, or None for a plain equation."""
    form = tuple(equation[:3])
    if kind_of(form) in ("split", "flat"):
        return None
    _, _, _, d, e, f = equation
    q, u, v = plain_centre(equation)
    double = -q * (2 * f * q + d * u + e * v)
    g = math.gcd(*form)
    if double % 2 or double == 0 or double // 2 % g:
        return None
    return tuple(number // g for number in form), double // 2 // g


def plain_parts(n):
    found = []
    p = 2
    while n > 1:
        many = 0
        while n % p == 0:
            n //= p
            many += 1
        if many:
            found.append((p, many))
        p += 1
    return tuple(found)


def is_reduced(form):
    """Return True if a form is reduced by point 3.3 or 3.4, or the negative of a reduced definite form."""
    a, b, c = form
    d = discriminant_of(form)
    if d < 0:
        if a < 0:
            return is_reduced((-a, -b, -c))
        return -a < b <= a <= c and (b >= 0 or a != c)
    if b <= 0 or b * b >= d or (2 * abs(a) + b) ** 2 <= d:
        return False
    return 2 * abs(a) - b <= 0 or (2 * abs(a) - b) ** 2 < d


def plain_ring(form):
    """Return the cycle of a reduced form, each neighbour found by trying numbers; () for a definite form."""
    if discriminant_of(form) < 0:
        return ()
    ring = []
    while form not in ring:
        ring.append(form)
        found = [form_behind(form, (0, -1, 1, n)) for n in range(-60, 61)]
        found = [other for other in found if is_reduced(other)]
        assert len(found) == 1
        form = found[0]
    return tuple(ring)


def leads(form, m, other):
    return determinant_of(m) == 1 and form_behind(form, m) == other


def is_right(equation, paper):
    """Return True if the paper is right by point 8.2; all rows are found by trying all sides and all b."""
    case = plain_case(equation)
    if case is None or paper == ("plain",):
        return case is None and paper == ("plain",)
    form, n = case
    d = discriminant_of(form)
    primes, rows, (home, way), ring = paper
    if primes != plain_parts(abs(n)):
        return False
    if not leads(form, way, home) or not is_reduced(home) or ring != plain_ring(home):
        return False
    expected = []
    for side in range(1, math.isqrt(abs(n)) + 1):
        if n % (side * side) == 0:
            rest = n // (side * side)
            expected += [(side, b) for b in range(2 * abs(rest)) if (b * b - d) % (4 * rest) == 0]
    if [row[:2] for row in rows] != expected:
        return False
    for side, b, word, m, told in rows:
        rest = n // (side * side)
        rooted = (rest, b, (b * b - d) // (4 * rest))
        if canonical_form(form)[0] == canonical_form(rooted)[0]:
            if word != "at" or told != rooted or not leads(form, m, rooted):
                return False
        elif word != "off" or not leads(rooted, m, told) or not is_reduced(told):
            return False
    return True


def drawn_self_change(source, form):
    some, step = self_group(form)
    m = source.choice(some)
    return m if step is None else product_of(m, raised(step, source.randint(-2, 2)))


def other_reduced(source, form, m):
    """Draw another reduced form of the cycle and the way to it behind m."""
    if discriminant_of(form) < 0:
        return form, m
    other, n = source.choice(cycle(form))
    return other, product_of(m, n)


def off_row(side, b, rooted):
    """Return a row that leads from a form to a reduced one and calls it off."""
    told, m = canonical_form(rooted)
    return (side, b, "off", m, told)


def other_paper(source, equation, paper):
    """Draw another right paper: other matrices, other reduced forms, another beginning of the ring."""
    form, n = plain_case(equation)
    primes, rows, (home, way), _ = paper
    found = []
    for side, b, word, m, told in rows:
        if word == "at":
            found.append((side, b, word, product_of(drawn_self_change(source, form), m), told))
        else:
            rest = n // (side * side)
            rooted = (rest, b, (b * b - discriminant_of(form)) // (4 * rest))
            told, m = other_reduced(source, told, m)
            found.append((side, b, word, product_of(drawn_self_change(source, rooted), m), told))
    home, way = other_reduced(source, home, way)
    way = product_of(drawn_self_change(source, form), way)
    return (primes, tuple(found), (home, way), plain_ring(home))


def altered_number(source, number):
    return source.choice((
        number + 1, number - 1, -number, 0, number * 2, number + source.randint(-30, 30), 1 - number,
        source.choice((GREAT, -GREAT, 10 ** 199))))


def altered(source, value):
    """Return a value of the same make in which one number or word is another one."""
    if isinstance(value, int):
        return altered_number(source, value)
    if isinstance(value, str):
        return source.choice(("at", "off", "", "plain", "AT", "none"))
    places = [index for index, part in enumerate(value) if part != ()]
    if not places:
        return value
    index = source.choice(places)
    return value[:index] + (altered(source, value[index]),) + value[index + 1:]


def altered_list(source, parts):
    """Return a tuple of parts of which one is left out, told twice, exchanged with another, or altered."""
    if not parts:
        return parts
    index = source.randrange(len(parts))
    other = source.randrange(len(parts))
    way = source.randrange(5)
    if way == 0:
        return parts[:index] + parts[index + 1:]
    if way == 1:
        return parts[:index] + (parts[other],) + parts[index:]
    if way == 2:
        changed = list(parts)
        changed[index], changed[other] = changed[other], changed[index]
        return tuple(changed)
    if way == 3:
        return parts[index:] + parts[:index]
    return parts[:index] + (altered(source, parts[index]),) + parts[index + 1:]


def altered_paper(source, paper):
    primes, rows, home, ring = paper
    way = source.randrange(6)
    if way == 0:
        return (altered_list(source, primes), rows, home, ring)
    if way in (1, 2):
        return (primes, altered_list(source, rows), home, ring)
    if way == 3:
        return (primes, rows, altered(source, home), ring)
    if way == 4:
        return (primes, rows, home, altered_list(source, ring) or ((1, 1, -1),))
    return source.choice((
        PLAIN, ((), rows, home, ring), (primes, (), home, ring), (primes, rows, home, ()),
        (primes, rows, home, ring + ring), (primes, rows + rows, home, ring), (primes * 2, rows, home, ring)))


def altered_answer(source, answer):
    if answer[0] in ("none", "all") or source.random() < 0.2:
        return source.choice((
            NONE, ALL, ("points", ()), ("points", ((0, 0),)), ("lines", (((0, 0), (1, 1)),)), ("curves", ()),
            ("curves", (((0, 1, 0), (1, 0, 0)),)), ("rows", ((1, 0, 0, 1), (0, 0)), (1, 0, 0), ()), ("lines", ()),
            ("rows", ((3, 4, 2, 3), (0, 0)), (1, 0, 0), ((1, 0),))))
    if answer[0] == "rows":
        word, change, triple, beginnings = answer
        way = source.randrange(3)
        if way == 0:
            return (word, altered(source, change), triple, beginnings)
        if way == 1:
            return (word, change, altered(source, triple), beginnings)
        return (word, change, triple, altered_list(source, beginnings))
    return (answer[0], altered_list(source, answer[1]))


def small_equations(source, many):
    """Draw equations that are not plain, with an n for which all b can be tried."""
    forms = [form for form in forms_up_to(6) if kind_of(form) in ("definite", "indefinite")]
    forms += [(g * a, g * b, g * c) for a, b, c in ((1, 0, -2), (1, 1, 1), (1, 1, -1), (-1, 0, -2)) for g in (3, 5)]
    found = []
    while len(found) < many:
        form = source.choice(forms)
        equation = equation_through(source, form, (source.randint(-7, 7), source.randint(-7, 7)), 9)
        if source.random() < 0.4:
            equation = form + tuple(source.randint(-12, 12) for _ in range(3))
        if source.random() < 0.3:
            n = source.choice((1, -1, 4, -36, 49, 72, 144, 60, -900, 1000, 2310))
            equation = equation_around(form, (source.randint(-9, 9), source.randint(-9, 9)), n * math.gcd(*form))
        case = plain_case(equation)
        if case is not None and abs(case[1]) <= 3000:
            found.append(equation)
    return found


class Checks(unittest.TestCase):

    def check_paper(self, equation):
        paper = paper_of(equation)
        self.assertIs(type(paper), tuple)
        self.assertTrue(is_right(equation, paper), (equation, paper))
        self.assertIs(judge(equation, solve(equation), paper), True, equation)
        return paper

    def check_judge(self, equation, answer, paper):
        expected = answer == solve(equation) and is_right(equation, paper)
        self.assertIs(judge(equation, answer, paper), expected, (equation, answer, paper))
        return expected


class TestPaperOf(Checks):

    def test_written_out(self):
        self.assertEqual(PLAIN, ("plain",))
        self.assertEqual(paper_of((1, 0, 1, 0, 0, -3)), (
            ((3, 1),), (), ((1, 0, 1), (1, 0, 0, 1)), ()))
        paper = paper_of((3, 0, 5, 0, 0, -9))
        self.assertEqual(paper[0], ((3, 2),))
        self.assertEqual(paper[1], ((3, 0, "off", (1, 0, 0, 1), (1, 0, 15)),))
        self.assertEqual(paper_of((1, 0, -2, 0, 0, -1))[0], ())
        self.assertEqual([row[:3] for row in paper_of((1, 0, -2, 0, 0, -7))[1]], [(1, 6, "at"), (1, 8, "at")])

    def test_plain_equations(self):
        for equation in (
            (0, 0, 0, 0, 0, 0), (0, 0, 0, 2, 3, 1), (1, 0, 0, 0, -1, 0), (1, 2, 1, 0, 0, -1), (0, 1, 0, 0, 0, -2),
            (1, 0, -1, 1, 1, 1), (1, 0, 1, 0, 0, 0), (1, 0, -2, 2, 4, -1), (2, 0, 2, 0, 0, -3), (3, 0, -6, 0, 0, -4),
            (1, 1, 1, 1, 1, 1), (4, 0, 4, 4, 0, 1), (6, 0, 6, 0, 0, -9), (2, 0, 2, 1, 0, 0),
        ):
            paper = self.check_paper(equation)
            self.assertEqual(paper == PLAIN, plain_case(equation) is None, equation)

    def test_drawn(self):
        source = random.Random(502)
        words = set()
        for equation in small_equations(source, 250):
            paper = self.check_paper(equation)
            self.assertEqual(len(paper), 4)
            words |= {(kind_of(equation[:3]), row[2]) for row in paper[1]}
        self.assertEqual(len(words), 4)
        for equation in drawn_of_each_kind(source, 30):
            case = plain_case(equation)
            if case is None or abs(case[1]) < 3000:
                self.check_paper(equation)

    def test_lists_as_equations(self):
        for equation in ((1, 0, -2, 0, 0, -7), (1, 0, 1, 0, 0, -25), (0, 1, 0, 0, 0, -2)):
            self.assertEqual(paper_of(list(equation)), paper_of(equation))
            self.assertIs(judge(list(equation), solve(equation), paper_of(equation)), True)

    def test_at_the_bounds(self):
        for form, n in (
            ((1, 0, 1), 35409725), ((1, 1, 1), 10 ** 8 - 11), ((1, 0, -2), 7 * 17 * 23 * 31 * 41),
            ((1, 1, -499), 10 ** 7), ((1, 0, 499), 10 ** 8), ((-1, 0, -1), -99999989),
            ((20, 20, -20), 20 * 11 * 19 * 29 * 31), ((1, 0, 1), 10 ** 8), ((1, 0, -2), -2 ** 26),
            ((3, 1, -5), 3 ** 16),
        ):
            equation = form + (0, 0, -n)
            self.assertTrue(within_bounds(equation), equation)
            paper = paper_of(equation)
            answer = solve(equation)
            self.assertIs(judge(equation, answer, paper), True)
            self.assertIs(judge(equation, NONE, paper), answer == NONE)
            self.assertIs(judge(equation, answer, (paper[0], paper[1][1:], paper[2], paper[3])), paper[1] == ())
        moved = change_equation((1, 0, -2, 1, 0, -6), (1, 0, 0, 1), (-4000, 3000))
        self.assertTrue(within_bounds(moved))
        self.check_paper(moved)


class TestJudge(Checks):

    def test_plain_equations_and_altered_answers(self):
        source = random.Random(511)
        for equation in ((0, 1, 0, 0, 0, -2), (1, 0, 0, 0, -3, -1), (1, 0, 1, 0, 0, 0), (0, 0, 0, 2, 3, 1),
                         (0, 0, 0, 0, 0, 0), (2, 0, 2, 0, 0, -3), (0, 1, 0, -1, -1, 1), (1, 0, -2, 0, 0, 0)):
            answer = solve(equation)
            self.assertIs(judge(equation, answer, PLAIN), True)
            for _ in range(25):
                self.check_judge(equation, altered_answer(source, answer), PLAIN)
            for paper in (paper_of((1, 0, 1, 0, 0, -25)), paper_of((1, 0, -2, 0, 0, -7)),
                          ((), (), ((1, 0, 1), (1, 0, 0, 1)), ())):
                self.assertIs(judge(equation, answer, paper), False)

    def test_plain_is_no_paper_of_other_equations(self):
        for equation in ((1, 0, -2, 0, 0, -7), (1, 0, 1, 0, 0, -25), (1, 0, 1, 0, 0, -3)):
            self.assertIs(judge(equation, solve(equation), PLAIN), False)

    def test_other_right_papers(self):
        source = random.Random(512)
        others = 0
        for equation in small_equations(source, 150):
            paper, answer = paper_of(equation), solve(equation)
            for _ in range(3):
                other = other_paper(source, equation, paper)
                others += other != paper
                self.assertIs(judge(equation, answer, other), True, (equation, other))
        self.assertGreater(others, 300)

    def test_altered_papers(self):
        source = random.Random(513)
        rights = 0
        for equation in small_equations(source, 150):
            paper, answer = paper_of(equation), solve(equation)
            for _ in range(25):
                rights += self.check_judge(equation, answer, altered_paper(source, paper))
        # Some are right papers, too: where two equal parts were exchanged, or a ring was begun elsewhere.
        self.assertGreater(rights, 10)

    def test_each_number_of_a_paper_counts(self):
        def all_altered(value):
            if isinstance(value, int):
                return [value + 1, value - 1, -value, value + GREAT]
            if isinstance(value, str):
                return ["at", "off", "on"]
            return [value[:k] + (part,) + value[k + 1:] for k in range(len(value)) for part in all_altered(value[k])]
        for equation in ((1, 0, -2, 0, 0, -63), (2, 1, 3, 0, 0, -36), (-1, 0, -5, 4, 0, 49), (1, 0, -3, 0, 0, 11),
                         (3, 1, -5, 1, 2, -2), (3, 3, 3, 0, 0, -147)):
            paper, answer = self.check_paper(equation), solve(equation)
            for other in all_altered(paper):
                self.check_judge(equation, answer, other)

    def test_altered_answers(self):
        source = random.Random(514)
        for equation in small_equations(source, 120):
            paper, answer = paper_of(equation), solve(equation)
            for _ in range(12):
                self.check_judge(equation, altered_answer(source, answer), paper)

    def test_papers_of_other_equations(self):
        source = random.Random(515)
        equations = small_equations(source, 40)
        for equation in equations:
            for other in source.sample(equations, 5):
                self.check_judge(equation, solve(equation), paper_of(other))
                self.check_judge(equation, solve(other), paper_of(equation))

    def test_a_missing_row_does_not_hide_points(self):
        equation = (1, 0, -2, 0, 0, -7)
        primes, rows, home, ring = paper_of(equation)
        word, change, triple, beginnings = solve(equation)
        for row in rows:
            kept = tuple(other for other in rows if other != row)
            for point in beginnings:
                answer = (word, change, triple, tuple(other for other in beginnings if other != point))
                self.assertIs(judge(equation, answer, (primes, kept, home, ring)), False)
        self.assertIs(judge(equation, NONE, (primes, (), home, ring)), False)

    def test_off_for_an_alike_form(self):
        # The rooted forms are alike to the form, however the row leads to a reduced form.
        for equation in ((1, 0, -2, 0, 0, -7), (1, 0, 1, 0, 0, -25), (-2, 1, -3, 0, 0, 18), (1, 1, -1, 0, 0, 11)):
            primes, rows, home, ring = paper_of(equation)
            self.assertIn("at", [row[2] for row in rows])
            all_off = tuple(
                off_row(side, b, told) if word == "at" else (side, b, word, m, told)
                for side, b, word, m, told in rows)
            for other_ring in (ring, ring[:1], ring[1:], ()):
                self.assertIs(judge(equation, NONE, (primes, all_off, home, other_ring)), False)
            for index, (side, b, word, _, rooted) in enumerate(rows):
                if word == "at":
                    changed = rows[:index] + (off_row(side, b, rooted),) + rows[index + 1:]
                    for answer in (NONE, solve(equation)):
                        for other_ring in (ring, ring[:1], ring[1:], ()):
                            self.assertIs(judge(equation, answer, (primes, changed, home, other_ring)), False)

    def test_forged_rows(self):
        # Rows of other numbers b, each right by itself: of b more or less than one turn away, and of no roots.
        source = random.Random(516)
        forged = 0
        for equation in small_equations(source, 100) + [(1, 0, 5, 0, 0, -5), (1, 1, -1, 0, 0, -1), (1, 0, 1, 0, 0, -1)]:
            form, n = plain_case(equation)
            primes, rows, home, ring = paper_of(equation)
            for index, (side, b, _, _, _) in enumerate(rows):
                rest = n // (side * side)
                for b2 in (b - 2 * abs(rest), b + 2 * abs(rest), source.randrange(2 * abs(rest)), b + 1, b - 1):
                    rooted = (rest, b2, (b2 * b2 - discriminant_of(form)) // (4 * rest))
                    if kind_of(rooted) not in ("definite", "indefinite") or kind_of(rooted) != kind_of(form):
                        continue
                    m = proper_change(form, rooted)
                    row = off_row(side, b2, rooted) if m is None else (side, b2, "at", m, rooted)
                    changed = tuple(sorted(rows[:index] + (row,) + rows[index + 1:]))
                    if b2 != b:
                        forged += 1
                        for answer in (solve(equation), NONE):
                            self.check_judge(equation, answer, (primes, changed, home, ring))
        self.assertGreater(forged, 500)

    def test_great_numbers_are_soon_refused(self):
        start = time.monotonic()
        equation = (1, 0, -2, 0, 0, -63)
        primes, rows, home, ring = paper_of(equation)
        answer = solve(equation)
        for parts in (
            ((GREAT, 1),), ((3, GREAT), (7, 1)), ((3, 2), (7, GREAT)), ((3, 2), (7, 1), (GREAT, 1)), ((1, 5),),
            ((0, 1),), ((-3, 2), (7, 1)), ((3, 2), (7, 1), (11, 0)), ((3, 2), (7, 1), (11, -GREAT)), ((9, 1), (7, 1)),
            ((63, 1),), ((7, 1), (9, 1)), ((3, 1), (3, 1), (7, 1)), ((7, 1), (3, 2)), ((3, 2), (7, 1), (8, 0)),
        ):
            self.assertIs(judge(equation, answer, (parts, rows, home, ring)), False, parts)
        for row in ((GREAT, 6, "at", (1, 0, 0, 1), (7, 6, 1)), (1, GREAT, "at", (1, 0, 0, 1), (7, 6, 1)),
                    (0, 0, "off", (1, 0, 0, 1), (1, 0, 0)), (-3, 6, "at", (1, 0, 0, 1), (7, 6, 1))):
            for index in range(len(rows) + 1):
                changed = rows[:index] + (row,) + rows[index + 1:]
                self.assertIs(judge(equation, answer, (primes, changed, home, ring)), False)
                changed = rows[:index] + (row,) + rows[index:]
                self.assertIs(judge(equation, answer, (primes, changed, home, ring)), False)
        for other in (((0, 0, 0), (1, 0, 0, 1)), ((GREAT, GREAT, -GREAT), (GREAT, 1, GREAT - 1, 1)),
                      ((1, 2, -1), (GREAT, GREAT, GREAT, GREAT))):
            self.assertIs(judge(equation, answer, (primes, rows, other, ring)), False)
            self.assertIs(judge(equation, answer, (primes, rows, other, ())), False)
        many = ((1, 2, -1),) * 3000
        self.assertIs(judge(equation, answer, (primes, rows, home, many)), False)
        self.assertIs(judge(equation, answer, (primes, rows * 1000, home, ring)), False)
        self.assertIs(judge(equation, answer, (primes * 1000, rows, home, ring)), False)
        self.assertLess(time.monotonic() - start, 20)

    def test_equations_times_a_number_have_the_same_papers(self):
        for equation in ((1, 0, -2, 0, 0, -7), (2, 1, 3, 1, -1, -9)):
            paper = paper_of(equation)
            for number in (2, 3):
                other = tuple(number * part for part in equation)
                self.assertEqual(paper_of(other), paper)
                self.assertIs(judge(other, solve(equation), paper), True)


if __name__ == "__main__":
    unittest.main()
