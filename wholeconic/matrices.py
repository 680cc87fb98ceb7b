"""Matrices (p, q, r, s) of two rows, and the points to which they carry (point 3.1)."""

from wholeconic.numbers import bezout

UNIT = (1, 0, 0, 1)


def multiply(m, n):
    """Return the product, which carries a point as m does behind n."""
    p, q, r, s = m
    p2, q2, r2, s2 = n
    return (p * p2 + q * r2, p * q2 + q * s2, r * p2 + s * r2, r * q2 + s * s2)


def determinant(m):
    """Return the determinant."""
    p, q, r, s = m
    return p * s - q * r


def apply(m, point):
    """Return the point to which the matrix carries a point."""
    p, q, r, s = m
    x, y = point
    return (p * x + q * y, r * x + s * y)


def negative(m):
    """Return the matrix with all signs turned."""
    p, q, r, s = m
    return (-p, -q, -r, -s)


def inverse(m):
    """Return the matrix that carries back, for determinant 1 or -1."""
    p, q, r, s = m
    turned = (s, -q, -r, p)
    return turned if determinant(m) == 1 else negative(turned)


def raised(m, many):
    """Return the power of m, of determinant 1 or -1, with any exponent."""
    if many < 0:
        return raised(inverse(m), -many)
    p, q, r, s = m
    trace, times = _power_parts(p + s, determinant(m), many)
    difference = times * (p - s)
    return ((trace + difference) // 2, times * q, times * r, (trace - difference) // 2)


def _power_parts(trace, sign, many):
    """Return (p2 + s2, times) of the power (p2, q2, r2, s2) of a matrix (p, q, r, s) with p + s == trace.

    As m * m is trace * m - sign * UNIT, with the determinant sign of m, each power has
    p2 - s2 == times * (p - s), q2 == times * q and r2 == times * r.
    """
    if many == 0:
        return (2, 0)
    # With great numbers most time goes into these two products, so the matrices themselves are not multiplied.
    half_trace, half_times = _power_parts(trace, sign, many // 2)
    half_sign = sign if many // 2 % 2 == 1 else 1
    trace2 = half_trace * half_trace - 2 * half_sign
    times2 = half_trace * half_times
    if many % 2 == 0:
        return (trace2, times2)
    return ((trace * trace2 + (trace * trace - 4 * sign) * times2) // 2, (trace * times2 + trace2) // 2)


def completed(point):
    """Return a matrix of determinant 1 that carries (1, 0) to a point whose numbers are without a common measure."""
    x, y = point
    _, u, v = bezout(x, y)
    return (x, -v, y, u)
