"""Common measures, roots of integers, powers and prime parts."""

from math import gcd, isqrt

# Together these bases tell primes from others for all n below 3 * 10 ** 23, far beyond the 10 ** 10 of point 0.4.
WITNESSES = (2, 3, 5, 7, 11, 13, 17, 19, 23, 29, 31, 37)


def bezout(a, b):
    """Return (g, u, v) with the greatest common measure g and u * a + v * b == g."""
    g, u, v = a, 1, 0
    rest, rest_u, rest_v = b, 0, 1
    while rest != 0:
        part = g // rest
        g, rest = rest, g - part * rest
        u, rest_u = rest_u, u - part * rest_u
        v, rest_v = rest_v, v - part * rest_v
    if g < 0:
        return (-g, -u, -v)
    return (g, u, v)


def measure(numbers):
    """Return the greatest common measure of a list or tuple, 0 if it has no number other than 0."""
    found = 0
    for number in numbers:
        found = gcd(found, number)
    return found


def floor_root(n):
    """Return the greatest integer whose square is at most n >= 0."""
    return isqrt(n)


def is_square(n):
    """Return True for the square of an integer."""
    if n < 0:
        return False
    root = floor_root(n)
    return root * root == n


def power(base, many):
    """Return the base to the power many >= 0."""
    result = 1
    for _ in range(many):
        result = result * base
    return result


def power_modulo(base, many, modulus):
    """Return the base to the power many >= 0, modulo a modulus above 1."""
    result = 1
    square = base % modulus
    while many > 0:
        if many % 2 == 1:
            result = result * square % modulus
        square = square * square % modulus
        many = many // 2
    return result


def taken_out(n, p):
    """Return (how often p > 1 measures n != 0, what is left of n)."""
    many = 0
    while n % p == 0:
        n = n // p
        many += 1
    return (many, n)


def is_prime(n):
    """Return True if n is a prime."""
    if n < 2:
        return False
    for p in WITNESSES:
        if n % p == 0:
            return n == p
    many, odd = taken_out(n - 1, 2)
    for base in WITNESSES:
        if not _behaves_as_prime(n, base, many, odd):
            return False
    return True


def _behaves_as_prime(n, base, many, odd):
    """Return True unless the base proves that n == 2 ** many * odd + 1 is no prime (Miller's test)."""
    number = power_modulo(base, odd, n)
    if number == 1:
        return True
    for _ in range(many):
        if number == n - 1:
            return True
        number = number * number % n
    return False


def prime_parts(n):
    """Return the list of the pairs (prime, exponent) of n >= 1, ascending."""
    parts = []
    rest = n
    p = 2
    while rest > 1:
        # A great prime that is left would take the longest search, so it is tested first.
        p = rest if is_prime(rest) else _least_measure(rest, p)
        many, rest = taken_out(rest, p)
        parts.append((p, many))
    return parts


def _least_measure(n, start):
    """Return the least measure above 1 of n, which no number from 2 to start - 1 measures."""
    if n % 2 == 0:
        return 2
    number = max(3, start)
    while n % number != 0:
        number += 2
    return number


def square_measures(n):
    """Return the ascending list of all g >= 1 whose square measures n != 0."""
    return sorted(products(halved(prime_parts(abs(n)))))


def halved(parts):
    """Return the prime parts of the greatest number whose square measures the number with the given ones."""
    return [(p, many // 2) for p, many in parts]


def products(parts):
    """Return the list, in any order, of the numbers above 0 that measure the number with the given prime parts."""
    found = [1]
    for p, many in parts:
        powers = [power(p, k) for k in range(many + 1)]
        found = [g * part for g in found for part in powers]
    return found
