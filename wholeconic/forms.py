"""Forms (a, b, c), which stand for a * x * x + b * x * y + c * y * y (points 3.1 and 3.2)."""

from wholeconic.numbers import is_square, measure, prime_parts


def discriminant(form):
    """Return the discriminant."""
    a, b, c = form
    return b * b - 4 * a * c


def content(form):
    """Return the greatest common measure of the three numbers, 0 for the form 0."""
    return measure(form)


def worth(form, point):
    """Return the value of the form at a point."""
    a, b, c = form
    x, y = point
    return a * x * x + b * x * y + c * y * y


def act(form, m):
    """Return the form to which the matrix leads."""
    a, b, c = form
    p, q, r, s = m
    middle = 2 * a * p * q + b * (p * s + q * r) + 2 * c * r * s
    return (worth(form, (p, r)), middle, worth(form, (q, s)))


def scaled(form, number):
    """Return the form times a number."""
    a, b, c = form
    return (a * number, b * number, c * number)


def divided(form, number):
    """Return the form divided by a number other than 0 that measures a, b and c."""
    a, b, c = form
    return (a // number, b // number, c // number)


def kind(form):
    """Return the word of point 3.2 for the form."""
    d = discriminant(form)
    if d < 0:
        return "definite"
    if d == 0:
        return "flat"
    return "split" if is_square(d) else "indefinite"


def unit_change(form, t, u):
    """Return a self-change of a form with content 1 and discriminant d, for t * t - d * u * u == 4.

    All self-changes of the form are of this make.
    """
    a, b, c = form
    return ((t - b * u) // 2, -c * u, a * u, (t + b * u) // 2)


def point_apart(form, number):
    """Return a point, without a common measure, where a form of content 1 shares no measure with number != 0."""
    a, _, c = form
    x = y = 1
    # Modulo each prime the value is that of a * x * x, of c * y * y, or of b * x * y where the prime measures a and c.
    for p, _ in prime_parts(abs(number)):
        if a % p != 0:
            y = y * p
        elif c % p != 0:
            x = x * p
    return (x, y)
