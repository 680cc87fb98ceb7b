"""Papers, which show that an answer is whole, and their judge (points 8.1 to 8.3).

The judge searches for nothing. The rows of a right paper are all there are, as they are as many as point 1.3 tells;
and a form that a row calls "off" is not alike to the equation's, as it leads to a reduced form outside of the ring.
"""

from wholeconic.conic import answer_from, carried_value, centre, form_of, solve
from wholeconic.definite import is_reduced_either_way
from wholeconic.forms import act, content, discriminant, divided, kind
from wholeconic.indefinite import cycle, is_reduced
from wholeconic.matrices import apply, determinant, inverse, multiply
from wholeconic.numbers import halved, is_prime, prime_parts, products, square_measures, taken_out
from wholeconic.represent import any_reduced, rooted_forms, ways_to_reduced
from wholeconic.residues import count_roots_by_parts

PLAIN = ("plain",)


def paper_of(equation):
    """Return a right paper of the equation."""
    case = _case_of(equation)
    if case is None:
        return PLAIN
    form, n = case
    home = any_reduced(form)
    return (tuple(prime_parts(abs(n))), tuple(_rows_of(form, n)), home, _ring_of(home[0]))


def judge(equation, answer, paper):
    """Return True if the paper is a right one of the equation and the answer is that of solve."""
    case = _case_of(equation)
    if case is None:
        return paper == PLAIN and answer == solve(equation)
    if paper == PLAIN:
        return False
    form, n = case
    primes, rows, home, ring = paper
    if not _are_prime_parts(primes, abs(n)) or not _is_home(form, home, ring):
        return False
    if not _are_all_rows(discriminant(form), n, primes, rows):
        return False
    reduced_ones = [home[0]] + list(ring)
    if not all([_is_right_row(form, n, reduced_ones, row) for row in rows]):
        return False
    firsts = [apply(matrix, (side, 0)) for side, _, word, matrix, _ in rows if word == "at"]
    return answer == answer_from(equation, firsts)


def _case_of(equation):
    """Return (the form, the n of point 8.1), both divided by the content, or None for a plain equation."""
    form = form_of(equation)
    if kind(form) in ("split", "flat"):
        return None
    n = carried_value(equation, centre(equation))
    g = content(form)
    if n == 0 or n % g != 0:
        return None
    return (divided(form, g), n // g)


def _rooted(d, n, side, b):
    """Return the form with discriminant d that a row with this side and this b is about."""
    rest = n // (side * side)
    return (rest, b, (b * b - d) // (4 * rest))


def _ring_of(reduced):
    """Return the tuple of the forms of the cycle of a reduced form, which is empty for a definite form."""
    if kind(reduced) == "definite":
        return ()
    return tuple([form for form, _ in cycle(reduced)])


def _rows_of(form, n):
    """Return the list of the rows of the paper."""
    d = discriminant(form)
    ways = ways_to_reduced(form)
    found = []
    for side in square_measures(n):
        for rooted in rooted_forms(d, n // (side * side)):
            reduced, m = any_reduced(rooted)
            if reduced in ways:
                found.append((side, rooted[1], "at", multiply(ways[reduced], inverse(m)), rooted))
            else:
                found.append((side, rooted[1], "off", m, reduced))
    return found


def _are_prime_parts(primes, n):
    """Return True if these are the prime parts of n >= 1."""
    rest = n
    before = 1
    for p, many in primes:
        if p <= before or many < 1:
            return False
        found, rest = taken_out(rest, p)
        if found != many or not is_prime(p):
            return False
        before = p
    return rest == 1


def _is_home(form, home, ring):
    """Return True if the home is a right one of the form, and the ring its cycle."""
    reduced, m = home
    return _leads(form, m, reduced) and _is_any_reduced(reduced) and ring == _ring_of(reduced)


def _leads(form, m, other):
    """Return True if the matrix has determinant 1 and leads from one form to the other."""
    return determinant(m) == 1 and act(form, m) == other


def _is_any_reduced(form):
    """Return True if a form is reduced or, for a definite form with a < 0, the negative of a reduced one."""
    return is_reduced_either_way(form) if kind(form) == "definite" else is_reduced(form)


def _are_all_rows(d, n, primes, rows):
    """Return True if the rows have each side with each b of its rooted forms, ascending."""
    places = [(row[0], row[1]) for row in rows]
    if places != sorted(set(places)):
        return False
    many = 0
    for side in products(halved(primes)):
        rest = abs(n) // (side * side)
        roots = [b for other, b in places if other == side]
        if not all([0 <= b < 2 * rest and (b * b - d) % (4 * rest) == 0 for b in roots]):
            return False
        if len(roots) != _count_rooted(d, rest, primes):
            return False
        many += len(roots)
    return many == len(places)


def _count_rooted(d, n, primes):
    """Return how many rooted forms there are for n, which these prime parts have all primes of."""
    bases = [2] + [p for p, _ in primes if p != 2]
    # With each b the number b + 2 * n is a root modulo 4 * n, too.
    return count_roots_by_parts(d, [(p, taken_out(4 * n, p)[0]) for p in bases]) // 2


def _is_right_row(form, n, reduced_ones, row):
    """Return True if a row, whose side and b are right, is right; the reduced ones are all alike to the form."""
    side, b, word, m, told = row
    rooted = _rooted(discriminant(form), n, side, b)
    if word == "at":
        return told == rooted and _leads(form, m, rooted)
    if word != "off" or told in reduced_ones:
        return False
    return _leads(rooted, m, told) and _is_any_reduced(told)
