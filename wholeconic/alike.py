"""Forms of all kinds: whether they are alike, and by which changes (points 4.1 to 4.3)."""

from wholeconic.definite import reduce_definite, self_changes
from wholeconic.forms import act, content, kind
from wholeconic.indefinite import canonical, self_change
from wholeconic.matrices import UNIT, inverse, multiply, negative
from wholeconic.split import canonical_flat, canonical_split, flat_parts

MIRROR = (1, 0, 0, -1)


def canonical_form(form):
    """Return (the canonical form, a matrix of determinant 1 that leads to it)."""
    word = kind(form)
    if word == "definite":
        return reduce_definite(form)
    if word == "split":
        return canonical_split(form)
    if word == "flat":
        return canonical_flat(form)
    return canonical(form)


def self_group(form):
    """Return (a list of self-changes, the one whose powers times these are all of them or None), None for 0."""
    if content(form) == 0:
        return None
    word = kind(form)
    if word == "definite":
        return (self_changes(form), None)
    both = [UNIT, negative(UNIT)]
    if word == "split":
        return (both, None)
    if word == "indefinite":
        return (both, self_change(form))
    _, p, q = flat_parts(form)
    return (both, (1 - p * q, -q * q, p * p, 1 + p * q))


def proper_change(form, other):
    """Return a matrix of determinant 1 that leads from one form to the other, or None."""
    found, m = canonical_form(form)
    other_found, n = canonical_form(other)
    if found != other_found:
        return None
    return multiply(m, inverse(n))


def mirrored_change(form, other):
    """Return a matrix of determinant -1 that leads from one form to the other, or None."""
    m = proper_change(act(form, MIRROR), other)
    if m is None:
        return None
    return multiply(MIRROR, m)
