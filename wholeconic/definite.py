"""Reduced definite forms and their self-changes (points 3.3 and 4.2)."""

from wholeconic.forms import act, content, discriminant, divided, scaled, unit_change
from wholeconic.matrices import UNIT, multiply
from wholeconic.numbers import floor_root

# All integers t, u with t * t - d * u * u == 4: for d == -3, for d == -4, and for each other d < 0.
UNITS_OF_3 = ((2, 0), (1, 1), (-1, 1), (-2, 0), (-1, -1), (1, -1))
UNITS_OF_4 = ((2, 0), (0, 1), (-2, 0), (0, -1))
OTHER_UNITS = ((2, 0), (-2, 0))


def is_reduced(form):
    """Return True if a definite form with a > 0 is reduced."""
    a, b, c = form
    return -a < b <= a <= c and (b >= 0 or a != c)


def is_reduced_either_way(form):
    """Return True if a definite form is reduced or, with a < 0, the negative of a reduced form."""
    return is_reduced(form if form[0] > 0 else scaled(form, -1))


def reduce_definite(form):
    """Return (the canonical form, a matrix of determinant 1 that leads to it)."""
    if form[0] < 0:
        found, m = reduce_definite(scaled(form, -1))
        return (scaled(found, -1), m)
    m = UNIT
    while not is_reduced(form):
        step = _step_down(form)
        form = act(form, step)
        m = multiply(m, step)
    return (form, m)


def _step_down(form):
    """Return the matrix that brings b into its bounds, or the one that exchanges a and c if b is there."""
    a, b, c = form
    n = (a - b) // (2 * a)
    if n != 0:
        return (1, n, 0, 1)
    return (0, -1, 1, 0)


def self_changes(form):
    """Return the list of all matrices of determinant 1 that lead from a definite form to itself."""
    part = divided(form, content(form))
    d = discriminant(part)
    units = UNITS_OF_3 if d == -3 else UNITS_OF_4 if d == -4 else OTHER_UNITS
    return [unit_change(part, t, u) for t, u in units]


def positive_classes(d):
    """Return the ascending list of the reduced forms with a > 0, content 1 and discriminant d < 0."""
    # A reduced form has 3 * a * a <= -d, as b * b <= a * a <= a * c.
    found = []
    for a in range(1, floor_root(-d // 3) + 1):
        for b in range(1 - a, a + 1):
            if (b * b - d) % (4 * a) == 0:
                form = (a, b, (b * b - d) // (4 * a))
                if is_reduced(form) and content(form) == 1:
                    found.append(form)
    return found
