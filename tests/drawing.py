"""What several tests share: plain words of point 3.1, written apart from the package, and drawn changes."""

import math

MIRROR = (1, 0, 0, -1)


def value_of(form, x, y):
    return form[0] * x * x + form[1] * x * y + form[2] * y * y


def discriminant_of(form):
    return form[1] ** 2 - 4 * form[0] * form[2]


def is_whole_square(n):
    return n >= 0 and math.isqrt(n) ** 2 == n


def kind_of(form):
    d = discriminant_of(form)
    if d < 0:
        return "definite"
    if d == 0:
        return "flat"
    return "split" if is_whole_square(d) else "indefinite"


def product_of(m, n):
    return (
        m[0] * n[0] + m[1] * n[2], m[0] * n[1] + m[1] * n[3],
        m[2] * n[0] + m[3] * n[2], m[2] * n[1] + m[3] * n[3])


def determinant_of(m):
    return m[0] * m[3] - m[1] * m[2]


def form_behind(form, m):
    """Return the form that m leads to, found by its values at (1, 0), (0, 1) and (1, 1)."""
    p, q, r, s = m
    first, last = value_of(form, p, r), value_of(form, q, s)
    return (first, value_of(form, p + q, r + s) - first - last, last)


def forms_up_to(limit):
    """Yield all forms with numbers from -limit to limit."""
    for a in range(-limit, limit + 1):
        for b in range(-limit, limit + 1):
            for c in range(-limit, limit + 1):
                yield (a, b, c)


def matrices_up_to(limit, determinant):
    """Return the list of all matrices of a determinant with numbers from -limit to limit."""
    numbers = range(-limit, limit + 1)
    return [
        (p, q, r, s) for p in numbers for q in numbers for r in numbers for s in numbers
        if p * s - q * r == determinant]


def drawn_change(source, steps, size):
    """Draw a matrix of determinant 1, a product of shears and of a quarter turn."""
    m = (1, 0, 0, 1)
    for _ in range(steps):
        n = source.randint(-size, size)
        m = product_of(m, source.choice(((1, n, 0, 1), (1, 0, n, 1), (0, -1, 1, 0))))
    return m


def drawn_great_form(source, form, limit):
    """Draw changes of a form until one number would be above the limit, and return the last form below it."""
    while True:
        other = form_behind(form, drawn_change(source, 2, 5))
        if max(abs(number) for number in other) > limit:
            return form
        form = other
