"""Equations of second degree and all their points (points 7.1, 7.3 and 7.4)."""

from wholeconic.forms import discriminant, kind
from wholeconic.indefinite import self_change
from wholeconic.lines import line_of, quadratic_roots
from wholeconic.matrices import UNIT, apply, multiply
from wholeconic.numbers import bezout, measure
from wholeconic.represent import definite_orbits, first_points, settle, settled_orbits, split_points
from wholeconic.split import flat_parts, zero_lines

NONE = ("none",)
ALL = ("all",)


def value(equation, point):
    """Return the left side of the equation at a point."""
    a, b, c, d, e, f = equation
    x, y = point
    return a * x * x + b * x * y + c * y * y + d * x + e * y + f


def form_of(equation):
    """Return the form of an equation."""
    a, b, c, _, _, _ = equation
    return (a, b, c)


def centre(equation):
    """Return the triple (q, u, v) of the centre (u / q, v / q), for a discriminant other than 0."""
    a, b, c, d, e, _ = equation
    q = b * b - 4 * a * c
    u = 2 * c * d - b * e
    v = 2 * a * e - b * d
    g = measure((q, u, v))
    if q < 0:
        g = -g
    return (q // g, u // g, v // g)


def carried(triple, point):
    """Return the carried point of a point."""
    q, u, v = triple
    x, y = point
    return (q * x - u, q * y - v)


def fetched(triple, point):
    """Return the point with the given carried point, or None if there is none."""
    q, u, v = triple
    x, y = point
    if (x + u) % q != 0 or (y + v) % q != 0:
        return None
    return ((x + u) // q, (y + v) // q)


def carried_value(equation, triple):
    """Return the value of the form at the carried points of all points of the equation, the n of point 8.1."""
    _, _, _, d, e, f = equation
    q, u, v = triple
    # The half is whole: modulo 2 and for an odd q, d is b * v and e is b * u, so d * u + e * v is even.
    return -q * (2 * f * q + d * u + e * v) // 2


def solve(equation):
    """Return the answer for an equation, one of those of point 7.4."""
    form = form_of(equation)
    word = kind(form)
    if form == (0, 0, 0):
        return _straight_answer(equation)
    if word == "flat":
        return _flat_answer(equation)
    n = carried_value(equation, centre(equation))
    if word == "split":
        return _split_answer(equation, n)
    if n == 0:
        # A form that is neither split nor flat is 0 at (0, 0) alone.
        return points_answer(equation, [(0, 0)])
    return answer_from(equation, first_points(form, n))


def answer_from(equation, firsts):
    """Return the answer for a definite or indefinite form, from the first points of its value at carried points."""
    form = form_of(equation)
    if kind(form) == "definite":
        return points_answer(equation, definite_orbits(form, firsts))
    return _rows_answer(equation, firsts)


def points_answer(equation, places):
    """Return the answer whose points have the given carried points, as far as there are such points."""
    triple = centre(equation)
    found = [fetched(triple, place) for place in places]
    return answer_with("points", sorted([point for point in found if point is not None]))


def answer_with(word, parts):
    """Return the answer with the word and a list of parts, or the one without points if there are no parts."""
    if not parts:
        return NONE
    return (word, tuple(parts))


def _straight_answer(equation):
    """Return the answer for an equation without squares."""
    _, _, _, d, e, f = equation
    if d == 0 and e == 0:
        return ALL if f == 0 else NONE
    line = line_of(d, e, f)
    return NONE if line is None else ("lines", (line,))


def _flat_answer(equation):
    """Return the answer for discriminant 0, with the form g * t * t for t == p * x + q * y."""
    _, _, _, d, e, f = equation
    g, p, q = flat_parts(form_of(equation))
    if e * p != d * q:
        return _curves_answer(equation)
    # Here d * x + e * y is a multiple of t.
    many = d // p if p != 0 else e // q
    return answer_with("lines", sorted([line_of(p, q, -t) for t in quadratic_roots(g, many, f)]))


def _curves_answer(equation):
    """Return the answer for a parabola."""
    _, _, _, d, e, f = equation
    g, p, q = flat_parts(form_of(equation))
    _, u, v = bezout(p, q)
    # With x == u * t - q * w and y == v * t + p * w the equation is g * t * t + many * t + f + turn * w == 0.
    many = d * u + e * v
    turn = e * p - d * q
    h = abs(turn)
    sign = turn // h
    found = []
    for t in range(h):
        rest = (g * t + many) * t + f
        if rest % h == 0:
            w = (-sign * g * h, -sign * (2 * g * t + many), -rest // turn)
            xs = (-q * w[0], u * h - q * w[1], u * t - q * w[2])
            ys = (p * w[0], v * h + p * w[1], v * t + p * w[2])
            found.append((xs, ys))
    return answer_with("curves", found)


def _split_answer(equation, n):
    """Return the answer for a split form with the value n at carried points."""
    form = form_of(equation)
    if n != 0:
        return points_answer(equation, split_points(form, n))
    q, u, v = centre(equation)
    lines = [line_of(q * dy, -q * dx, v * dx - u * dy) for dx, dy in zero_lines(form)]
    return answer_with("lines", sorted([line for line in lines if line is not None]))


def _rows_answer(equation, firsts):
    """Return the answer for an indefinite form with the first points of its value, other than 0, at carried points."""
    triple = centre(equation)
    m = self_change(form_of(equation))
    powers = _powers_to_centre(m, triple)
    change = powers.pop()
    places = [apply(n, place) for place in settled_orbits(firsts, m) for n in powers]
    # The change carries places with points to such places, so they are told apart before they are settled.
    places = [settle(place, change) for place in places if fetched(triple, place) is not None]
    found = sorted([fetched(triple, place) for place in places])
    if not found:
        return NONE
    return ("rows", change_about(triple, change), triple, tuple(found))


def change_about(triple, matrix):
    """Return the change with the matrix that leaves the centre where it is, for a matrix that has such a change."""
    q, u, v = triple
    x, y = apply(matrix, (u, v))
    return (matrix, ((u - x) // q, (v - y) // q))


def _powers_to_centre(m, triple):
    """Return the list of the powers of m from 0 on to the first above 0 that moves the centre by whole numbers."""
    q, u, v = triple
    powers = [UNIT, m]
    x, y = apply(m, (u, v))
    while (x - u) % q != 0 or (y - v) % q != 0:
        powers.append(multiply(m, powers[-1]))
        x, y = apply(powers[-1], (u, v))
    return powers
