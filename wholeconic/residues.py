"""Square roots modulo an integer (points 1.2 and 1.3)."""

from wholeconic.numbers import bezout, power, power_modulo, prime_parts, taken_out


def square_roots(d, m):
    """Return the ascending list of the x with 0 <= x < m for which m measures x * x - d."""
    roots = [0]
    modulus = 1
    for p, many in prime_parts(m):
        part = power(p, many)
        roots = _joined(roots, modulus, _power_roots(d, p, many), part)
        modulus = modulus * part
    return sorted(roots)


def count_roots(d, m):
    """Return how many square roots d has modulo m, without finding them."""
    return count_roots_by_parts(d, prime_parts(m))


def count_roots_by_parts(d, parts):
    """Return how many square roots d has modulo the number with the given prime parts, also with exponents 0."""
    found = 1
    for p, many in parts:
        found = found * _count_power_roots(d, p, many)
    return found


def is_residue(d, p):
    """Return True if d is a square modulo an odd prime p that does not measure d."""
    return power_modulo(d, (p - 1) // 2, p) == 1


def _joined(roots, modulus, others, part):
    """Return the numbers modulo modulus * part that are one of the roots and one of the others."""
    inverse = bezout(modulus, part)[1]
    return [root + modulus * ((other - root) * inverse % part) for root in roots for other in others]


def _count_power_roots(d, p, many):
    """Return how many square roots d has modulo p ** many."""
    rest = d % power(p, many)
    if rest == 0:
        return power(p, many // 2)
    inside, unit = taken_out(rest, p)
    if inside % 2 == 1:
        return 0
    return power(p, inside // 2) * _count_unit_roots(unit, p, many - inside)


def _count_unit_roots(unit, p, many):
    """Return how many square roots a number that p does not measure has modulo p ** many."""
    if p > 2:
        return 2 if is_residue(unit, p) else 0
    if many == 1:
        return 1
    if many == 2:
        return 2 if unit % 4 == 1 else 0
    return 4 if unit % 8 == 1 else 0


def _power_roots(d, p, many):
    """Return the square roots of d modulo p ** many, in any order."""
    modulus = power(p, many)
    rest = d % modulus
    if rest == 0:
        return list(range(0, modulus, power(p, many - many // 2)))
    inside, unit = taken_out(rest, p)
    if inside % 2 == 1:
        return []
    # With rest == half * half * unit each root is half times a root of the unit, which counts modulo step only.
    half = power(p, inside // 2)
    step = power(p, many - inside)
    return [half * (root + step * k) for root in _unit_roots(unit, p, many - inside) for k in range(half)]


def _unit_roots(unit, p, many):
    """Return the square roots of a number that p does not measure modulo p ** many, in any order."""
    if p == 2:
        return _unit_roots_of_two(unit, many)
    if not is_residue(unit, p):
        return []
    root = _lifted_root(_prime_root(unit % p, p), unit, p, many)
    return [root, power(p, many) - root]


def _unit_roots_of_two(unit, many):
    """Return the square roots of an odd number modulo 2 ** many, in any order."""
    if many == 1:
        return [1]
    if many == 2:
        return [1, 3] if unit % 4 == 1 else []
    if unit % 8 != 1:
        return []
    root = 1
    modulus = 8
    for _ in range(many - 3):
        # Half of the modulus more changes the square by the modulus itself, modulo twice the modulus.
        if (root * root - unit) % (2 * modulus) != 0:
            root = root + modulus // 2
        modulus = 2 * modulus
    half = modulus // 2
    return [root, half - root, half + root, modulus - root]


def _prime_root(unit, p):
    """Return a square root of a residue modulo an odd prime (Tonelli's and Shanks's way)."""
    many, odd = taken_out(p - 1, 2)
    root = power_modulo(unit, (odd + 1) // 2, p)
    rest = power_modulo(unit, odd, p)
    turn = power_modulo(_least_non_residue(p), odd, p)
    # root * root == unit * rest modulo p throughout, and the order of rest, a power of 2, falls to 1.
    while rest != 1:
        order = _doublings_to_one(rest, p)
        for _ in range(many - order - 1):
            turn = turn * turn % p
        root = root * turn % p
        turn = turn * turn % p
        rest = rest * turn % p
        many = order
    return root


def _least_non_residue(p):
    """Return the least number above 1 that is no square modulo an odd prime p."""
    number = 2
    while is_residue(number, p):
        number += 1
    return number


def _doublings_to_one(number, p):
    """Return how often a number is squared until it is 1 modulo p."""
    many = 0
    while number != 1:
        number = number * number % p
        many += 1
    return many


def _lifted_root(root, unit, p, many):
    """Return the square root of the unit modulo p ** many that is the given root modulo p."""
    inverse = bezout(2 * root, p)[1]
    modulus = p
    for _ in range(many - 1):
        modulus = modulus * p
        root = (root - (root * root - unit) * inverse) % modulus
    return root
