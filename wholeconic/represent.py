"""The points at which a form has a value n other than 0 (points 6.1 and 6.2)."""

from wholeconic.alike import canonical_form
from wholeconic.definite import reduce_definite, self_changes
from wholeconic.forms import act, content, discriminant, divided, kind
from wholeconic.indefinite import cycle, reduce_indefinite, self_change
from wholeconic.matrices import apply, inverse, multiply
from wholeconic.numbers import prime_parts, products, square_measures
from wholeconic.residues import square_roots


def rooted_forms(d, n):
    """Return the list of the forms (n, b, c) of discriminant d with 0 <= b < 2 * abs(n), ascending by b."""
    # With b each b + 2 * n is a root, too, so the lower half of the roots has one of each.
    roots = [b for b in square_roots(d, 4 * abs(n)) if b < 2 * abs(n)]
    return [(n, b, (b * b - d) // (4 * n)) for b in roots]


def any_reduced(form):
    """Return (a reduced form, or the negative of one for a definite form with a < 0; a matrix that leads to it)."""
    if kind(form) == "definite":
        return reduce_definite(form)
    return reduce_indefinite(form)


def ways_to_reduced(form):
    """Return the dict of all reduced forms that are alike to a form, each with a matrix that leads to it."""
    reduced, m = any_reduced(form)
    if kind(form) == "definite":
        return {reduced: m}
    return {other: multiply(m, n) for other, n in cycle(reduced)}


def change_by_ways(ways, form):
    """Return the matrix from the form with these ways (see ways_to_reduced) to another form, or None."""
    reduced, n = any_reduced(form)
    if reduced not in ways:
        return None
    return multiply(ways[reduced], inverse(n))


def first_points(form, n):
    """Return a list of representations: each one is a self-change of the form times exactly one of them."""
    g = content(form)
    if n % g != 0:
        return []
    part = divided(form, g)
    d = discriminant(part)
    ways = ways_to_reduced(part)
    found = []
    # A matrix to a rooted form carries (1, 0) to a point without a common measure, and matrices to one and the
    # same rooted form differ by a self-change; points with a common measure are multiples of such points.
    for side in square_measures(n // g):
        for rooted in rooted_forms(d, n // g // (side * side)):
            m = change_by_ways(ways, rooted)
            if m is not None:
                found.append(apply(m, (side, 0)))
    return found


def definite_points(form, n):
    """Return the ascending list of all representations by a definite form."""
    return definite_orbits(form, first_points(form, n))


def definite_orbits(form, firsts):
    """Return the ascending list of the points to which the self-changes of a definite form carry others."""
    changes = self_changes(form)
    return sorted([apply(m, point) for point in firsts for m in changes])


def split_points(form, n):
    """Return the ascending list of all representations by a split form."""
    (_, k, c), m = canonical_form(form)
    # The canonical form is the product of y and k * x + c * y.
    found = []
    for y in measures(n):
        rest = n // y - c * y
        if rest % k == 0:
            found.append(apply(m, (rest // k, y)))
    return sorted(found)


def orbit_points(form, n):
    """Return (the self-change m of an indefinite form, the ascending list of all settled representations)."""
    m = self_change(form)
    return (m, settled_orbits(first_points(form, n), m))


def settled_orbits(firsts, m):
    """Return the ascending list of the settled points of some points and of their negatives."""
    # No power of m leads from a point to its negative, as its characteristic numbers are above 0.
    found = [settle(point, m) for point in firsts]
    return sorted(found + [settle((-x, -y), m) for x, y in firsts])


def size(point):
    """Return the size of a point."""
    x, y = point
    return x * x + y * y


def settle(point, m):
    """Return the settled point, a power of m times the point."""
    return settled_with_steps(point, m)[0]


def settled_with_steps(point, m):
    """Return (the settled point, the exponent of the power of m that carries the point to it)."""
    back = inverse(m)
    found, forth = _nearer(point, m)
    found, more = _nearer(found, back)
    _, found, steps = min(_beside(found, m, back))
    return (found, forth - more + steps)


def _nearer(point, m):
    """Return (the point of least size among all powers of m from 0 on times the point, the exponent)."""
    # Along the powers of m the sizes fall to the least one, or to two equal ones, and then grow.
    if size(apply(m, point)) >= size(point):
        return (point, 0)
    # Steps twice as long end beside the least one, so far points need few steps.
    found, steps = _nearer(point, multiply(m, m))
    _, found, more = min(_beside(found, m, inverse(m)))
    return (found, 2 * steps + more)


def _beside(point, m, back):
    """Return the list of (size, point, step) of the points one step back, none and one forth."""
    places = [(apply(back, point), -1), (point, 0), (apply(m, point), 1)]
    return [(size(place), place, step) for place, step in places]


def measures(n):
    """Return the list of all integers that measure n != 0, also those below 0."""
    found = products(prime_parts(abs(n)))
    return found + [-g for g in found]


def is_represented(form, n):
    """Return True if a form that is not flat has the value n != 0 at a point."""
    if kind(form) == "split":
        return split_points(form, n) != []
    return first_points(form, n) != []
