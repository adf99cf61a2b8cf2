"""A cell at which a sum of stripes is not 0.

The *part* of a look at a level (m, c) is told by the means of the look over the cells that are alike by m: they
are a floor with the period m, and the part is what the plain stripes of the level have in it. At a great level
these are the tints of the plain heap. The part is not 0 exactly if the mean of the look times the root of unity
of the number c . x by m is not 0.

The search takes every p-th number in one place of the cells, again and again: of the p narrower floors with the
numbers a, a + p, a + 2 p, .., for a from 0 to p - 1, at least one has a part at the level that the level becomes
there, as those means of all of them, each turned by some root of unity, sum up to p times that of the whole floor.
In the end all cells of the narrow floor have one tint, which is its mean and its part, and not 0.
"""

from math import gcd, lcm

from slantpanes.heaps import normal_pairs, tint_on
from slantpanes.plain import great_levels_in, is_low, plain_of, sister_rests
from slantpanes.stripes import by_period, cell_on, normal_form, stripe_told_by
from slantpanes.wholes import PRIMES, part_at, primes_of


def cell_not_zero(pairs):
    """A cell at which the pairs of stripes and tints have a tint other than 0, None if there is no such cell."""
    plain = plain_of(pairs)
    if plain == ():
        return None
    # Both have the same look, and the search is the quicker the fewer stripes there are.
    fewest = min([normal_pairs(pairs), plain], key=len)
    return parting_cell(fewest, great_levels_in(plain)[0])


def parting_cell(pairs, level):
    """A cell with a tint other than 0; the level is a great one of the look of the pairs of stripes and tints."""
    cell = searched_cell(pairs, level)
    return tuple([number % period_along(pairs, place) for place, number in enumerate(cell)])


def period_along(pairs, place):
    """After how many steps along the place all stripes come again."""
    period = 1
    for (m, c, _), _ in pairs:
        period = lcm(period, m // gcd(m, c[place]))
    return period


def searched_cell(pairs, level):
    """The cell of parting_cell, perhaps of greater numbers than need be."""
    m, c = level
    begin = [0] * len(c)
    width = [1] * len(c)
    ahead = primes_of(m)
    for p in ahead + [prime for prime in PRIMES if prime not in ahead]:
        for place in range(len(c)):
            while does_turn(pairs, place, p):
                cell = tried_cell(pairs, len(c))
                if cell is not None:
                    return cell_seen(begin, width, cell)
                level = narrowed_level(level, place, p)
                a, pairs = narrowed(pairs, level, place, p)
                begin[place] += a * width[place]
                width[place] *= p
    return tuple(begin)


def cell_seen(begin, width, cell):
    """The cell of the whole floor that the narrower floor shows as this cell."""
    return tuple([start + step * number for start, step, number in zip(begin, width, cell)])


def does_turn(pairs, place, p):
    """Whether some of the stripes depends, by a power of p, on the number in the place."""
    return any([c[place] % part_at(m, p) != 0 for (m, c, _), _ in pairs])


def tried_cell(pairs, breadth):
    """A cell with a tint other than 0, if it is seen at once.

    Mostly there is one, and its numbers are not great, as those of a search through all primes would be.
    """
    for cell in [tuple([0] * breadth)] + [cell_on(stripe) for stripe, _ in pairs]:
        if tint_on(pairs, cell) != 0:
            return cell
    return None


def narrowed(pairs, level, place, p):
    """The least a, and the pairs as seen on the floor of a, for which there is a part at the level there."""
    for a in range(p - 1):
        seen = narrowed_pairs(pairs, place, p, a)
        if has_part_at(seen, level):
            return a, seen
    # At least one has a part, so the last one has.
    return p - 1, narrowed_pairs(pairs, place, p, p - 1)


def narrowed_pairs(pairs, place, p, a):
    """The pairs as seen where the number in the place is a + p y, told by y."""
    seen = []
    for (m, c, r), tint in pairs:
        stripe = stripe_told_by(m, stretched(c, place, p), r - c[place] * a)
        if stripe is not None:
            seen.append((stripe, tint))
    return seen


def narrowed_level(level, place, p):
    """What the level becomes where every p-th number in the place is taken."""
    m, c = level
    return normal_form(stripe_told_by(m, stretched(c, place, p), 0))[:2]


def stretched(c, place, p):
    """The numbers c, the one in the place times p."""
    return [*c[:place], c[place] * p, *c[place + 1:]]


def has_part_at(pairs, level):
    """Whether the part at the level is not 0."""
    m, c = level
    whole = 1
    for stripe, _ in pairs:
        whole = lcm(whole, stripe[0])
    weights = {}
    for (n, b, s), tint in pairs:
        if n % m == 0:
            _, numbers, r = normal_form(by_period(m, b, s))
            if numbers == c:
                # In the mean this stripe is m / n of that one; whole / m times that is an integer.
                weights[r] = weights.get(r, 0) + tint * (whole // n)
    return any([weight != 0 for weight in low_weights(weights, m).values()])


def low_weights(weights, m):
    """The weights of the numbers r of a level, those of stripes that are not plain being laid on others.

    The stripes of lesser periods that come of this have no part at the level and are left out.
    """
    for p in primes_of(m):
        low = {}
        for r, weight in weights.items():
            if is_low(r, m, p):
                low[r] = low.get(r, 0) + weight
            else:
                for rest in sister_rests(m, r, p):
                    low[rest] = low.get(rest, 0) - weight
        weights = low
    return weights
