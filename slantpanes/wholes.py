"""Whole numbers: the primes of periods, common divisors and multiples, and what undoes a factor."""

from math import gcd, lcm

PRIMES = (2, 3, 5, 7, 11, 13, 17, 19, 23, 29)


def is_integer(thing):
    """Whether any value is an integer; a bool is none."""
    return isinstance(thing, int) and not isinstance(thing, bool)


def is_fraction(thing):
    """Whether any value is a fraction: a pair of integers, the second one at least 1 [0.2]."""
    if not isinstance(thing, tuple) or len(thing) != 2 or not all([is_integer(item) for item in thing]):
        return False
    return thing[1] >= 1


def primes_of(number):
    """The primes below 30 that divide an integer, ascending."""
    return [p for p in PRIMES if number % p == 0]


def part_at(number, p):
    """The greatest power of the prime p that divides an integer above 0."""
    part = 1
    while number % p == 0:
        number //= p
        part *= p
    return part


def divisors_of(number):
    """The ascending list of the integers from 1 on that divide a small number above 0."""
    return [divisor for divisor in range(1, number + 1) if number % divisor == 0]


def sum_number(m, a):
    """The sum number of a small period m and an integer a [9.2]."""
    return sum([e * sign_of_primes(m // e) for e in divisors_of(m) if a % e == 0])


def sign_of_primes(number):
    """The mu of [9.2] of a period: 1 or -1 by the number of its primes, 0 if the square of one divides it."""
    sign = 1
    for p in primes_of(number):
        sign = 0 if number % (p * p) == 0 else -sign
    return sign


def common_divisor(number, others):
    """The greatest integer that divides a number from 0 on and all others; 0 if all are 0."""
    divisor = number
    for other in others:
        divisor = gcd(divisor, other)
    return divisor


def lowest(top, bottom):
    """The fraction top / bottom in lowest terms; the bottom is above 0."""
    divisor = gcd(top, bottom)
    return (top // divisor, bottom // divisor)


def common_multiple(numbers):
    """The least positive integer that all the numbers, which are above 0, divide."""
    multiple = 1
    for number in numbers:
        multiple = lcm(multiple, number)
    return multiple


def divisor_with_factors(numbers):
    """The greatest common divisor of integers, and as many factors with which they add up to it."""
    divisor, factors = 0, []
    for number in numbers:
        divisor, of_divisor, of_number = divisor_of_two(divisor, number)
        factors = [of_divisor * factor for factor in factors] + [of_number]
    return divisor, factors


def divisor_of_two(one, other):
    """The greatest common divisor of two integers, and the two factors with which they add up to it."""
    before, now = one, other
    of_one, of_one_now = 1, 0
    of_other, of_other_now = 0, 1
    while now != 0:
        times = before // now
        before, now = now, before - times * now
        of_one, of_one_now = of_one_now, of_one - times * of_one_now
        of_other, of_other_now = of_other_now, of_other - times * of_other_now
    if before < 0:
        return -before, -of_one, -of_other
    return before, of_one, of_other


def inverse(number, modulus):
    """The integer from 1 to modulus - 1 that makes the number 1 by the modulus.

    The modulus is at least 2, and only 1 and -1 divide both.
    """
    before, now = modulus, number % modulus
    factor_before, factor = 0, 1
    while now > 1:
        times = before // now
        before, now = now, before - times * now
        factor_before, factor = factor, factor_before - times * factor
    return factor % modulus


def one_at(number, p):
    """The integer that is 1 by the greatest power of the prime p that divides a number, and 0 by the rest of it."""
    part = part_at(number, p)
    rest = number // part
    return rest * inverse(rest, part)
