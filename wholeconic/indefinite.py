"""Reduced indefinite forms, their cycles and their self-changes (points 3.4, 3.6 and 4.2).

With the root w of a discriminant, an integer is below w exactly if it is at most floor_root of the
discriminant, as w is no integer: so all comparisons with w are made between integers.
"""

from wholeconic.forms import act, content, discriminant, divided, unit_change
from wholeconic.fractions import even_turn
from wholeconic.matrices import UNIT, multiply
from wholeconic.numbers import floor_root


def is_reduced(form):
    """Return True if an indefinite form is reduced."""
    a, b, _ = form
    root = floor_root(discriminant(form))
    return 0 < b <= root and 2 * abs(a) - b <= root < 2 * abs(a) + b


def reduce_indefinite(form):
    """Return (a reduced form, a matrix of determinant 1 that leads to it)."""
    m = UNIT
    while not is_reduced(form):
        step = _step_near(form)
        form = act(form, step)
        m = multiply(m, step)
    return (form, m)


def _step_near(form):
    """Return the matrix (0, -1, 1, n) that makes the numbers of a form less, until it is reduced."""
    _, b, c = form
    if abs(c) > floor_root(discriminant(form)):
        # With a great c the least b2 in absolute value makes the next last number less than c.
        return (0, -1, 1, (b + abs(c)) // (2 * abs(c)) * (1 if c > 0 else -1))
    return step_of(form)


def step_of(form):
    """Return the matrix (0, -1, 1, n) that leads from a reduced form to its neighbour."""
    _, b, c = form
    root = floor_root(discriminant(form))
    # It leads to b2 == 2 * c * n - b, and w - 2 * abs(c) < b2 < w is so for one n alone.
    b2 = root - (root + b) % (2 * abs(c))
    return (0, -1, 1, (b + b2) // (2 * c))


def cycle(form):
    """Return the list of the pairs (form of the cycle of a reduced form, matrix that leads to it)."""
    found = [(form, UNIT)]
    step = step_of(form)
    other, m = act(form, step), step
    while other != form:
        found.append((other, m))
        step = step_of(other)
        other, m = act(other, step), multiply(m, step)
    return found


def canonical(form):
    """Return (the canonical form, a matrix of determinant 1 that leads to it)."""
    reduced, m = reduce_indefinite(form)
    found, n = min(cycle(reduced))
    return (found, multiply(m, n))


def least_unit(d):
    """Return the least t, u > 0 with t * t - d * u * u == 4, for the discriminant d of an indefinite form."""
    odd = d % 2
    # A convergent (x, y) of (odd + w) / 2 behind an even number of periods has
    # (2 * x - odd * y) ** 2 - d * y * y == 4, and no lesser integers have it.
    x, y = even_turn(odd, 2, d)
    return (2 * x - odd * y, y)


def self_change(form):
    """Return the self-change whose powers, and their negatives, are all self-changes of an indefinite form."""
    part = divided(form, content(form))
    t, u = least_unit(discriminant(part))
    return unit_change(part, t, u)
