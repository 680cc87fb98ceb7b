"""The points of an answer that leave rests (point 7.5)."""

from wholeconic.answers import moved
from wholeconic.conic import NONE, answer_with, carried, change_about, fetched
from wholeconic.errors import BadForm
from wholeconic.lines import curve_of, curve_point
from wholeconic.matrices import UNIT, apply, multiply, raised
from wholeconic.represent import settle


def cut(answer, modulus, rests):
    """Return the answer whose points are those with x - rests[0] and y - rests[1] measured by the modulus."""
    word = answer[0]
    if word == "all":
        raise BadForm(modulus)
    if word == "none":
        return NONE
    if word == "points":
        return answer_with("points", [point for point in answer[1] if _leaves(point, modulus, rests)])
    if word == "rows":
        return _cut_rows(answer, modulus, rests)
    curves = [curve_of(line) for line in answer[1]] if word == "lines" else list(answer[1])
    return answer_with("curves", [
        _thinned(curve, modulus, n)
        for curve in curves for n in range(modulus) if _leaves(curve_point(curve, n), modulus, rests)])


def _leaves(point, modulus, rests):
    """Return True if the point leaves the rests."""
    return (point[0] - rests[0]) % modulus == 0 and (point[1] - rests[1]) % modulus == 0


def _thinned(curve, modulus, n):
    """Return the curve whose k-th point is that of the curve with n + modulus * k."""
    xs, ys = curve
    return (_thinned_row(xs, modulus, n), _thinned_row(ys, modulus, n))


def _thinned_row(row, modulus, n):
    """Return the row whose value at k is that of the row at n + modulus * k."""
    r, s, t = row
    return (r * modulus * modulus, (2 * r * n + s) * modulus, (r * n + s) * n + t)


def _cut_rows(answer, modulus, rests):
    """Return the answer of rows, cut."""
    _, change, triple, beginnings = answer
    powers = _powers_modulo(change, modulus)
    matrix = raised(change[0], len(powers))
    found = []
    for beginning in beginnings:
        place = carried(triple, beginning)
        for step, rough in enumerate(powers):
            if _leaves(moved(rough, beginning), modulus, rests):
                there = apply(raised(change[0], step), place)
                found.append(fetched(triple, settle(there, matrix)))
    if not found:
        return NONE
    return ("rows", change_about(triple, matrix), triple, tuple(sorted(found)))


def _powers_modulo(change, modulus):
    """Return the list of the powers of a change modulo the modulus, from 0 on until that of 0 would come again."""
    start = _reduced((UNIT, (0, 0)), modulus)
    step = _reduced(change, modulus)
    powers = [start]
    rough = step
    while rough != start:
        powers.append(rough)
        rough = _reduced((multiply(step[0], rough[0]), moved(step, rough[1])), modulus)
    return powers


def _reduced(change, modulus):
    """Return a change that leaves the same rests, with numbers from 0 to modulus - 1."""
    (p, q, r, s), (right, up) = change
    return ((p % modulus, q % modulus, r % modulus, s % modulus), (right % modulus, up % modulus))
