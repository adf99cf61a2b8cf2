"""Taking stripes apart into plain ones, and the levels of plain heaps."""

from slantpanes.heaps import gathered
from slantpanes.stripes import by_period, is_stripe, normal_form
from slantpanes.wholes import part_at, primes_of


def is_low(r, m, p):
    """Whether the highest figure of r, by the part of m at its prime p, is below p - 1."""
    part = part_at(m, p)
    return r % part < part - part // p


def is_plain_stripe(stripe):
    """Whether the stripe is plain [2.3]."""
    m, _, r = stripe
    return normal_form(stripe) == stripe and all([is_low(r, m, p) for p in primes_of(m)])


def sister_rests(m, r, p):
    """The numbers r of the p - 1 stripes that make, with the one of r, one of the period m / p [2.2]."""
    return [(r + e * (m // p)) % m for e in range(1, p)]


def taken_apart_at(stripe, p):
    """Pairs of stripes and signs that look like the normal stripe together and are as plain stripes at p."""
    m, c, r = stripe
    parts = []
    while not is_low(r, m, p):
        parts.extend([((m, c, rest), -1) for rest in sister_rests(m, r, p)])
        m, c, r = by_period(m // p, c, r)
    parts.append(((m, c, r), 1))
    return parts


def plain_parts(stripe):
    """Pairs of plain stripes and signs that look like the stripe together."""
    parts = [(normal_form(stripe), 1)]
    for p in primes_of(stripe[0]):
        # Taking apart at one prime leaves r as it is by the powers of the others.
        parts = [
            (piece, sign * sign_of_piece)
            for part, sign in parts
            for piece, sign_of_piece in taken_apart_at(part, p)
        ]
    return parts


def plain_of(pairs):
    """The plain heap that looks like the pairs of stripes and tints, added up."""
    return gathered([(part, sign * tint) for stripe, tint in pairs for part, sign in plain_parts(stripe)])


def is_level(thing):
    """Whether any value is a level of some look: a pair of a period and numbers that are normal by it [2.6]."""
    if not isinstance(thing, tuple) or len(thing) != 2:
        return False
    m, c = thing
    stripe = (m, c, 0)
    return is_stripe(stripe) and normal_form(stripe) == stripe


def levels_in(plain):
    """The ascending tuple of the levels of a plain heap."""
    return tuple(sorted({stripe[:2] for stripe, _ in plain}))


def great_levels_in(plain):
    """The ascending tuple of the great levels of a plain heap."""
    levels = levels_in(plain)
    return tuple([level for level in levels if not any([is_below(level, other) for other in levels])])


def is_below(level, other):
    """Whether a level of normal numbers lies within another such level that is not itself."""
    m, c = level
    n, b = other
    # The normal numbers b are normal by each divisor of n, too.
    return m < n and n % m == 0 and tuple([number % m for number in b]) == c
