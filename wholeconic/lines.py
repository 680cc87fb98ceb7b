"""Lines (point, direction), integer roots and rows of polynomials (point 7.2)."""

from wholeconic.numbers import bezout, floor_root, is_square
from wholeconic.split import directed


def line_of(d, e, f):
    """Return the line of the points with d * x + e * y + f == 0, d and e not both 0, or None."""
    g, u, v = bezout(d, e)
    if f % g != 0:
        return None
    many = -f // g
    return settled_line((u * many, v * many), directed(e, -d))


def settled_line(point, direction):
    """Return the line through a point, with the point of it that point 7.2 tells."""
    x, y = point
    dx, dy = direction
    steps = x // dx if dx > 0 else y
    return ((x - steps * dx, y - steps * dy), (dx, dy))


def step_on(line, point):
    """Return the n with point == start + n * direction, or None if the point is not on the line."""
    (x0, y0), (dx, dy) = line
    x, y = point
    steps = (x - x0) // dx if dx > 0 else y - y0
    if (x0 + steps * dx, y0 + steps * dy) != (x, y):
        return None
    return steps


def quadratic_roots(a, b, c):
    """Return the ascending list of the integers t with a * t * t + b * t + c == 0, a and b not both 0."""
    if a == 0:
        return [-c // b] if c % b == 0 else []
    d = b * b - 4 * a * c
    if not is_square(d):
        return []
    root = floor_root(d)
    tops = [-b] if root == 0 else [-b - root, -b + root]
    return sorted([top // (2 * a) for top in tops if top % (2 * a) == 0])


def value_at(row, n):
    """Return the value of a row of a polynomial."""
    r, s, t = row
    return r * n * n + s * n + t


def curve_of(line):
    """Return the curve whose n-th point is that of the line."""
    (x, y), (dx, dy) = line
    return ((0, dx, x), (0, dy, y))


def curve_point(curve, n):
    """Return the n-th point of a curve."""
    xs, ys = curve
    return (value_at(xs, n), value_at(ys, n))
