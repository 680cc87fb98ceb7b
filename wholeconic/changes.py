"""Equations in other unknowns (points 7.1 and 7.2)."""

from wholeconic.conic import form_of, value
from wholeconic.forms import act
from wholeconic.matrices import apply, inverse


def change_equation(equation, m, shift):
    """Return the equation in new unknowns: the old point is m times the new one plus the shift."""
    a, b, c, d, e, _ = equation
    p, q, r, s = m
    x, y = shift
    # How fast the left side grows at the shift, along x and along y.
    along_x = 2 * a * x + b * y + d
    along_y = b * x + 2 * c * y + e
    a2, b2, c2 = act(form_of(equation), m)
    return (a2, b2, c2, along_x * p + along_y * r, along_x * q + along_y * s, value(equation, shift))


def old_point(m, shift, point):
    """Return m times the point plus the shift."""
    x, y = apply(m, point)
    return (x + shift[0], y + shift[1])


def new_point(m, shift, point):
    """Return the point that old_point carries to the given one, for determinant 1 or -1."""
    x, y = point
    return apply(inverse(m), (x - shift[0], y - shift[1]))


def scale_equation(equation, number):
    """Return the equation with all six numbers times a number."""
    a, b, c, d, e, f = equation
    return (a * number, b * number, c * number, d * number, e * number, f * number)


def turn_over(equation):
    """Return the equation with x and y exchanged."""
    a, b, c, d, e, f = equation
    return (c, b, a, e, d, f)
