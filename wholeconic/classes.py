"""Classes of forms, named by their canonical forms, and their composition (points 5.1 to 5.3).

A row of four numbers, by which the products x * z, x * w, y * z, y * w are multiplied, is also read as a
matrix here: its rows belong to x and y, its columns to z and w.
"""

from wholeconic.alike import canonical_form
from wholeconic.definite import positive_classes
from wholeconic.forms import act, content, discriminant, point_apart
from wholeconic.indefinite import cycle, is_reduced
from wholeconic.matrices import completed, inverse, multiply
from wholeconic.numbers import bezout, floor_root


def classes(d):
    """Return the ascending list of the canonical forms of all classes of a discriminant."""
    if d < 0:
        return positive_classes(d)
    found = []
    seen = set()
    # The forms are ascending: so the first one of a cycle that is met is its least one.
    for form in _reduced_forms(d):
        if form not in seen:
            found.append(form)
            for other, _ in cycle(form):
                seen.add(other)
    return found


def _reduced_forms(d):
    """Return the ascending list of the reduced indefinite forms with content 1."""
    root = floor_root(d)
    found = []
    for a in range(-root, root + 1):
        for b in range(1, root + 1):
            if a != 0 and (b * b - d) % (4 * a) == 0:
                form = (a, b, (b * b - d) // (4 * a))
                if is_reduced(form) and content(form) == 1:
                    found.append(form)
    return found


def principal(d):
    """Return the canonical form of the principal class."""
    return canonical_form((1, d % 2, (d % 2 - d) // 4))[0]


def opposite(form):
    """Return the canonical form of the opposite class."""
    a, b, c = form
    return canonical_form((a, -b, c))[0]


def compose(form, other):
    """Return (the canonical form of the composition, the two rows by which values multiply)."""
    one, m = canonical_form(form)
    two, n = canonical_form(other)
    # Without a common measure of the first numbers the forms can be united.
    turn = completed(point_apart(two, one[0]))
    step, other_step = _uniting_steps(one, act(two, turn))
    m = multiply(m, step)
    n = multiply(multiply(n, turn), other_step)
    a, middle, _ = act(form, m)
    a2, _, last = act(other, n)
    last = last // a
    found, back = canonical_form((a * a2, middle, last))
    upper = _row_before((1, 0, 0, -last), inverse(m), inverse(n))
    lower = _row_before((0, a, a2, middle), inverse(m), inverse(n))
    p, q, r, s = inverse(back)
    return (found, (_sum_of_rows(p, upper, q, lower), _sum_of_rows(r, upper, s, lower)))


def _uniting_steps(form, other):
    """Return the two matrices that make the middle numbers equal, for first numbers without a common measure."""
    a, b, _ = form
    a2, b2, _ = other
    _, u, _ = bezout(a, a2)
    n = u * ((b2 - b) // 2) % abs(a2)
    return ((1, n, 0, 1), (1, (b + 2 * a * n - b2) // (2 * a2), 0, 1))


def _row_before(row, m, n):
    """Return the row that gives at two points what the given one gives where m and n carry them."""
    p, q, r, s = m
    return multiply(multiply((p, r, q, s), row), n)


def _sum_of_rows(number, row, other_number, other_row):
    """Return number * row + other_number * other_row."""
    return tuple([number * part + other_number * other_part for part, other_part in zip(row, other_row)])


def class_power(form, many):
    """Return the canonical form of the class composed with itself so many times, also below 0."""
    if many < 0:
        return class_power(opposite(form), -many)
    if many == 0:
        return principal(discriminant(form))
    half = class_power(form, many // 2)
    whole = compose(half, half)[0]
    return whole if many % 2 == 0 else compose(whole, form)[0]
