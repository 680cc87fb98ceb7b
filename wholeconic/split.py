"""Split and flat forms, which are products of two lines (point 3.5)."""

from wholeconic.forms import act, content, discriminant
from wholeconic.matrices import completed, multiply
from wholeconic.numbers import bezout, floor_root, measure


def zero_lines(form):
    """Return the list of the two points without a common measure at which a split form is 0."""
    a, b, c = form
    if a == 0:
        return [(1, 0), directed(c, -b)]
    root = floor_root(discriminant(form))
    return [directed(root - b, 2 * a), directed(-root - b, 2 * a)]


def directed(x, y):
    """Return (x, y), not both 0, without their common measure and with the first number that is not 0 above 0."""
    g = measure((x, y))
    if x < 0 or (x == 0 and y < 0):
        g = -g
    return (x // g, y // g)


def canonical_split(form):
    """Return (the canonical form, a matrix of determinant 1 that leads to it)."""
    first, second = [completed(point) for point in zero_lines(form)]
    # At one of the two lines the middle number is k, at the other one it is -k.
    m = first if act(form, first)[1] > 0 else second
    _, k, c = act(form, m)
    step = (1, -(c // k), 0, 1)
    return ((0, k, c % k), multiply(m, step))


def flat_parts(form):
    """Return (g, p, q) with g * (p * x + q * y) ** 2 for a flat form."""
    a, b, c = form
    g = content(form)
    if g == 0:
        return (0, 1, 0)
    if a < 0 or c < 0:
        g = -g
    p = floor_root(a // g)
    if p == 0:
        return (g, 0, 1)
    return (g, p, b // (2 * g * p))


def canonical_flat(form):
    """Return (the canonical form, a matrix of determinant 1 that leads to it)."""
    g, p, q = flat_parts(form)
    _, u, v = bezout(p, q)
    return ((g, 0, 0), (u, -q, v, p))
