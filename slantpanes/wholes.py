"""Whole numbers: the primes of periods, common divisors, and what undoes a factor."""

from math import gcd

PRIMES = (2, 3, 5, 7, 11, 13, 17, 19, 23, 29)


def is_integer(thing):
    """Whether any value is an integer; a bool is none."""
    return isinstance(thing, int) and not isinstance(thing, bool)


def primes_of(number):
    """The primes below 30 that divide an integer, ascending."""
    return [p for p in PRIMES if number % p == 0]


def part_at(number, p):
    """The greatest power of the prime p that divides an integer above 0."""
    part = 1
    while number % p == 0:
        number //= p
        part *= p
    return part


def common_divisor(number, others):
    """The greatest positive integer that divides a number above 0 and all others."""
    divisor = number
    for other in others:
        divisor = gcd(divisor, other)
    return divisor


def inverse(number, modulus):
    """The integer from 1 to modulus - 1 that makes the number 1 by the modulus.

    The modulus is at least 2, and only 1 and -1 divide both.
    """
    before, now = modulus, number % modulus
    factor_before, factor = 0, 1
    while now > 1:
        times = before // now
        before, now = now, before - times * now
        factor_before, factor = factor, factor_before - times * factor
    return factor % modulus


def one_at(number, p):
    """The integer that is 1 by the greatest power of the prime p that divides a number, and 0 by the rest of it."""
    part = part_at(number, p)
    rest = number // part
    return rest * inverse(rest, part)
