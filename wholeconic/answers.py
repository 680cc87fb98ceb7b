"""What the points of an answer are: their names, those in a box, and the changes of its rows (point 7.6)."""

from wholeconic.conic import carried, fetched
from wholeconic.lines import curve_of, curve_point, quadratic_roots, step_on
from wholeconic.matrices import apply, inverse
from wholeconic.numbers import floor_root
from wholeconic.represent import settled_with_steps, size


def moved(change, point):
    """Return the point to which a change carries a point."""
    matrix, (right, up) = change
    x, y = apply(matrix, point)
    return (x + right, y + up)


def back_change(change):
    """Return the change that carries back, for determinant 1."""
    matrix, shift = change
    back = inverse(matrix)
    x, y = apply(back, shift)
    return (back, (-x, -y))


def moved_often(change, point, steps):
    """Return the point to which a change carries a point so many times, back for steps below 0."""
    if steps < 0:
        return moved_often(back_change(change), point, -steps)
    for _ in range(steps):
        point = moved(change, point)
    return point


def far(triple, point):
    """Return the size of the carried point of a point."""
    return size(carried(triple, point))


def name_of(answer, point):
    """Return the name (index, step) of a point in an answer, or None if it has none."""
    word = answer[0]
    if word in ("none", "all"):
        return None
    if word == "rows":
        return _row_name(answer, point)
    for index, part in enumerate(answer[1]):
        step = _step_in_part(word, part, point)
        if step is not None:
            return (index, step)
    return None


def _step_in_part(word, part, point):
    """Return the step of a point in one of the points, lines or curves of an answer, or None."""
    if word == "lines":
        return step_on(part, point)
    if word == "curves":
        return _curve_step(part, point)
    return 0 if part == point else None


def _curve_step(curve, point):
    """Return the n of a point of a curve, or None if it is not on the curve."""
    xs, ys = curve
    # A row that stays the same tells no n; the other one does not stay the same.
    row, number = (xs, point[0]) if (xs[0], xs[1]) != (0, 0) else (ys, point[1])
    for n in quadratic_roots(row[0], row[1], row[2] - number):
        if curve_point(curve, n) == point:
            return n
    return None


def _row_name(answer, point):
    """Return the name of a point in an answer of rows, or None."""
    _, (matrix, _), triple, beginnings = answer
    # The carried points of a row are powers of the matrix times one another, and the settled one is the beginning's.
    place, steps = settled_with_steps(carried(triple, point), matrix)
    beginning = fetched(triple, place)
    if beginning not in beginnings:
        return None
    return (beginnings.index(beginning), -steps)


def tells(answer, point):
    """Return True if the point is one of the answer's."""
    return answer[0] == "all" or name_of(answer, point) is not None


def point_of(answer, name):
    """Return the point that a name (index, step) stands for, for an index that is there."""
    word = answer[0]
    index, step = name
    if word == "points":
        return answer[1][index]
    if word == "lines":
        return curve_point(curve_of(answer[1][index]), step)
    if word == "curves":
        return curve_point(answer[1][index], step)
    return moved_often(answer[1], answer[3][index], step)


def in_box(answer, box):
    """Return the ascending list of the points with x from box[0] to box[1] and y from box[2] to box[3]."""
    x0, x1, y0, y1 = box
    word = answer[0]
    if word == "none" or x0 > x1 or y0 > y1:
        return []
    if word == "all":
        return [(x, y) for x in range(x0, x1 + 1) for y in range(y0, y1 + 1)]
    if word == "curves":
        return _on_curves(answer[1], box)
    if word == "lines":
        return _on_curves([curve_of(line) for line in answer[1]], box)
    points = answer[1] if word == "points" else _near_points(answer, box)
    return sorted([(x, y) for x, y in points if x0 <= x <= x1 and y0 <= y <= y1])


def _on_curves(curves, box):
    """Return the ascending list of the points of curves in a box."""
    found = [
        curve_point(curve, n)
        for curve in curves for first, last in _steps_in_box(curve, box) for n in range(first, last + 1)]
    # Where curves cross, the point is told once.
    return sorted(set(found))


def _steps_in_box(curve, box):
    """Return the list of the pairs (first, last) of the steps at which a curve is in a box."""
    xs, ys = curve
    x0, x1, y0, y1 = box
    if (xs[0], xs[1]) == (0, 0):
        return _steps_within(ys, y0, y1) if x0 <= xs[2] <= x1 else []
    if (ys[0], ys[1]) == (0, 0):
        return _steps_within(xs, x0, x1) if y0 <= ys[2] <= y1 else []
    others = _steps_within(ys, y0, y1)
    return [
        (max(first, other_first), min(last, other_last))
        for first, last in _steps_within(xs, x0, x1) for other_first, other_last in others]


def _steps_within(row, low, high):
    """Return the list of the pairs (first, last) of the n at which a row, which changes, is from low to high."""
    r, s, t = row
    if r < 0 or (r == 0 and s < 0):
        return _steps_within((-r, -s, -t), -high, -low)
    if r == 0:
        return [(-((t - low) // s), (high - t) // s)]
    first, last = _steps_up_to(row, high)
    # Between these steps the row is too low at some, unless it is nowhere below low.
    low_first, low_last = _steps_up_to(row, low - 1)
    if low_first > low_last:
        return [(first, last)]
    return [(first, low_first - 1), (low_last + 1, last)]


def _steps_up_to(row, high):
    """Return the first and the last n at which a row with r > 0 is at most high, the last one lower if none is."""
    r, s, t = row
    d = s * s - 4 * r * (t - high)
    if d < 0:
        return (1, 0)
    root = floor_root(d)
    return (-((root + s) // (2 * r)), (root - s) // (2 * r))


def _near_points(answer, box):
    """Return a list of points of an answer of rows in which all those in the box are."""
    _, change, triple, beginnings = answer
    most = max([far(triple, (x, y)) for x in (box[0], box[1]) for y in (box[2], box[3])])
    found = list(beginnings)
    for way in (change, back_change(change)):
        for beginning in beginnings:
            # Along a row the carried points become ever greater on both sides of the beginning.
            point = moved(way, beginning)
            while far(triple, point) <= most:
                found.append(point)
                point = moved(way, point)
    return found
