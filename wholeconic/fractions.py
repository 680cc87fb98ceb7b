"""Continued fractions of quadratic numbers (points 2.1 to 2.4)."""

from wholeconic.errors import BadForm
from wholeconic.numbers import floor_root, is_square


def expand(p, q, d):
    """Return the expansion (first parts, period) of (p + w) / q with the root w of d."""
    if is_square(d) or q == 0 or (d - p * p) % q != 0:
        raise BadForm(q)
    root = floor_root(d)
    places = {}
    parts = []
    # A pair (p, q) tells all later parts, and numbers that differ have parts that differ:
    # so the pair that comes again first bounds the shortest period.
    while (p, q) not in places:
        places[(p, q)] = len(parts)
        part = _part_of(p, q, root)
        parts.append(part)
        p = part * q - p
        q = (d - p * p) // q
    first = places[(p, q)]
    return (tuple(parts[:first]), tuple(parts[first:]))


def _part_of(p, q, root):
    """Return the greatest integer at most (p + w) / q, where w lies between root and root + 1."""
    if q > 0:
        return (p + root) // q
    # Divided by q < 0, the upper bound of w gives the lower bound of the number.
    return (p + root + 1) // q


def convergents(parts):
    """Return the list of the convergents (top, bottom) of a list or tuple of parts."""
    found = []
    before = (0, 1)
    last = (1, 0)
    for part in parts:
        before, last = last, (part * last[0] + before[0], part * last[1] + before[1])
        found.append(last)
    return found


def part_at(expansion, index):
    """Return the part of an expansion with an index from 0 on."""
    first, period = expansion
    if index < len(first):
        return first[index]
    return period[(index - len(first)) % len(period)]


def even_turn(p, q, d):
    """Return the convergent behind as many parts of (p + w) / q as one period has, or two if that is odd.

    The number has at most one first part: so these parts are a whole turn, whose end is that of the period.
    """
    expansion = expand(p, q, d)
    many = len(expansion[1])
    if many % 2 == 1:
        many = 2 * many
    return convergents([part_at(expansion, index) for index in range(many)])[-1]


def pell(d):
    """Return the least x, y > 0 with x * x - d * y * y == 1, for d > 0 that is no square."""
    # Behind an odd period stands a solution of -1; the one of 1 stands behind the next period.
    return even_turn(0, 1, d)
