"""Genera: the signs that the values of a form leave (points 5.4 and 5.5)."""

from wholeconic.alike import canonical_form
from wholeconic.classes import classes, compose, principal
from wholeconic.forms import discriminant, point_apart, worth
from wholeconic.numbers import prime_parts
from wholeconic.residues import is_residue


def genus(form):
    """Return the tuple of the signs of the form's genus."""
    d = discriminant(form)
    n = worth(form, point_apart(form, 2 * d))
    signs = [1 if is_residue(n, p) else -1 for p, _ in prime_parts(abs(d)) if p != 2]
    if d % 2 == 0:
        signs.extend(_signs_at_2(d // 4 % 8, n))
    return tuple(signs)


def _signs_at_2(rest, n):
    """Return the list of the signs behind those of the odd primes, by the rest of d // 4 modulo 8."""
    fourth = 1 if n % 4 == 1 else -1
    eighth = 1 if n % 8 in (1, 7) else -1
    if rest in (3, 4, 7):
        return [fourth]
    if rest == 6:
        return [fourth * eighth]
    if rest == 2:
        return [eighth]
    if rest == 0:
        return [fourth, eighth]
    return []


def squares(d):
    """Return the ascending list of the canonical forms of the classes that are a class composed with itself."""
    return sorted(set([compose(form, form)[0] for form in classes(d)]))


def same_genus(form, other):
    """Return True if two forms of one discriminant have the same genus."""
    return genus(form) == genus(other)


def class_order(form):
    """Return the least many >= 1 for which the class composed with itself so many times is the principal one."""
    target = principal(discriminant(form))
    found = canonical_form(form)[0]
    many = 1
    while found != target:
        found = compose(found, form)[0]
        many += 1
    return many
