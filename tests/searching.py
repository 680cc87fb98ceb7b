"""Plain search for the points of equations, and plain walks over the points that answers tell."""

import math

from tests.drawing import discriminant_of, kind_of, product_of


def left_side(equation, x, y):
    a, b, c, d, e, f = equation
    return a * x * x + b * x * y + c * y * y + d * x + e * y + f


def found_in(equation, box):
    """Return the ascending list of all points of an equation in a box, by trying all."""
    x0, x1, y0, y1 = box
    return [
        (x, y) for x in range(x0, x1 + 1) for y in range(y0, y1 + 1) if left_side(equation, x, y) == 0]


def square_around(point, limit):
    """Return the box around a point."""
    return (point[0] - limit, point[0] + limit, point[1] - limit, point[1] + limit)


def is_inside(point, box):
    return box[0] <= point[0] <= box[1] and box[2] <= point[1] <= box[3]


def row_value(row, n):
    return row[0] * n * n + row[1] * n + row[2]


def line_points(line, box):
    """Return the points of a line in a box."""
    (px, py), (dx, dy) = line
    if dx == 0:
        return [(px, y) for y in range(box[2], box[3] + 1) if box[0] <= px <= box[1]]
    steps = [(x - px) // dx for x in range(box[0], box[1] + 1) if (x - px) % dx == 0]
    return [(px + n * dx, py + n * dy) for n in steps if box[2] <= py + n * dy <= box[3]]


def steps_within(row, low, high):
    """Return a range that has all n at which a row, which is not constant, has a value from low to high."""
    r, s, t = row
    most = max(abs(low), abs(high)) + abs(t)
    if r == 0:
        limit = most // abs(s) + 1
    else:
        limit = (abs(s) + math.isqrt(s * s + 4 * abs(r) * most) + 1) // (2 * abs(r)) + 1
    return range(-limit, limit + 1)


def curve_points(curve, box):
    """Return the points of a curve in a box."""
    xs, ys = curve
    steps = steps_within(xs, box[0], box[1]) if xs[:2] != (0, 0) else steps_within(ys, box[2], box[3])
    points = [(row_value(xs, n), row_value(ys, n)) for n in steps]
    return [point for point in points if is_inside(point, box)]


def carried_to(change, point):
    (p, q, r, s), (right, up) = change
    return (p * point[0] + q * point[1] + right, r * point[0] + s * point[1] + up)


def carried_back(change, point):
    (p, q, r, s), (right, up) = change
    x, y = point[0] - right, point[1] - up
    return (s * x - q * y, p * y - r * x)


def carried_size(triple, point):
    q, u, v = triple
    return (q * point[0] - u) ** 2 + (q * point[1] - v) ** 2


def row_points(change, triple, beginning, box):
    """Return the points of a row in a box; along a row the sizes of carried points grow from the beginning."""
    most = max(carried_size(triple, (x, y)) for x in box[:2] for y in box[2:])
    found = [beginning]
    for step in (carried_to, carried_back):
        point = step(change, beginning)
        while carried_size(triple, point) <= most:
            found.append(point)
            point = step(change, point)
    return [point for point in found if is_inside(point, box)]


def told_parts(answer, box):
    """Return the list of the lists of points in a box that each part of an answer tells."""
    word = answer[0]
    if word == "none":
        return []
    if word == "all":
        return [[(x, y) for x in range(box[0], box[1] + 1) for y in range(box[2], box[3] + 1)]]
    if word == "points":
        return [[point for point in answer[1] if is_inside(point, box)]]
    if word == "lines":
        return [line_points(line, box) for line in answer[1]]
    if word == "curves":
        return [curve_points(curve, box) for curve in answer[1]]
    return [row_points(answer[1], answer[2], beginning, box) for beginning in answer[3]]


def told_in(answer, box):
    """Return the ascending list of the points in a box that an answer tells."""
    return sorted(set(point for part in told_parts(answer, box) for point in part))


def equation_around(form, centre, value):
    """Return the equation of the form's value at the point less the centre."""
    a, b, c = form
    x, y = centre
    return (
        a, b, c, -2 * a * x - b * y, -b * x - 2 * c * y, a * x * x + b * x * y + c * y * y - value)


def equation_through(source, form, point, size):
    """Draw an equation of the form that has the point."""
    d, e = source.randint(-size, size), source.randint(-size, size)
    return form + (d, e, -left_side(form + (d, e, 0), *point))


def flat_form(g, p, q):
    return (g * p * p, 2 * g * p * q, g * q * q)


def within_bounds(equation):
    """Return True if the bounds of point 0.4 for equations that are solved are kept."""
    a, b, c, d, e, f = equation
    form = (a, b, c)
    if max(map(abs, form)) > 10 ** 5 or max(abs(d), abs(e)) > 10 ** 6 or abs(f) > 10 ** 8:
        return False
    D = discriminant_of(form)
    if D == 0:
        return True
    if kind_of(form) != "split" and abs(D) > 2000:
        return False
    q, u, v = plain_centre(equation)
    return abs(q * (2 * f * q + d * u + e * v)) <= 2 * 10 ** 10


def plain_centre(equation):
    a, b, c, d, e, _ = equation
    D = b * b - 4 * a * c
    u, v = 2 * c * d - b * e, 2 * a * e - b * d
    g = math.gcd(D, u, v) * (1 if D > 0 else -1)
    return (D // g, u // g, v // g)


def power_of(m, many):
    result = (1, 0, 0, 1)
    for _ in range(many):
        result = product_of(result, m)
    return result


def drawn_of_each_kind(source, many):
    """Draw equations with points near the origin: many of each kind of form, some of each kind of answer among them."""
    kinds = {"definite": [], "flat": [], "split": [], "indefinite": []}
    for a in range(-5, 6):
        for b in range(-5, 6):
            for c in range(-5, 6):
                kinds[kind_of((a, b, c))].append((a, b, c))
    found = []
    for forms in kinds.values():
        for form in source.choices(forms, k=many):
            point = (source.randint(-6, 6), source.randint(-6, 6))
            found.append(equation_through(source, form, point, 7))
    # Lines, products of two lines and forms times a number come seldom by themselves.
    for _ in range(many):
        p, q, r, p2, q2, r2 = [source.randint(-3, 3) for _ in range(6)]
        found.append((p * p2, p * q2 + q * p2, q * q2, p * r2 + r * p2, q * r2 + r * q2, r * r2))
        found.append((0, 0, 0, p, q, r))
        g, form = source.randint(2, 6), source.choice(kinds["indefinite"])
        x, y, d, e = [source.randint(-4, 4) for _ in range(4)]
        form = (g * form[0], g * form[1], g * form[2])
        if abs(discriminant_of(form)) <= 2000:
            found.append(form + (d, e, -left_side(form + (d, e, 0), x, y)))
    return [equation for equation in found if within_bounds(equation)]
