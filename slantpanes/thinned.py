"""Sums of stripes with as few of them as need be, for values that may be of any size.

A plain heap may be very long where the periods are great. To tell whether a sum of stripes is 0 at all cells, or
which levels are great in its look, it need not be plain. Call *family* the p stripes of [2.2] that have the cells of
one stripe together. The plain stripes leave one stripe of each family out, but any other one can be left out in its
place: what is left is as independent as they are, and the stripes of a level are exchanged for others of that level
and of lesser ones. So a stripe is exchanged only if its whole family is there; and as it is one of those of which
there are the fewest, this makes a sum little longer than it was.
"""

from slantpanes.heaps import gathered, normal_pairs
from slantpanes.plain import sister_rests
from slantpanes.stripes import by_period
from slantpanes.wholes import PRIMES, part_at


def thinned(pairs):
    """An independent sum of stripes that looks like the pairs of stripes and tints, as a heap.

    It is empty exactly if they have the tint 0 everywhere, and its great levels are those of the look.
    """
    thin = normal_pairs(pairs)
    for p in PRIMES:
        thin = thinned_at(thin, p)
    return thin


def thinned_at(pairs, p):
    """A heap that looks like the normal pairs, without a whole family at the prime p."""
    lots = {}
    for stripe, tint in pairs:
        lots.setdefault(part_at(stripe[0], p), []).append((stripe, tint))
    part = max([1, *lots])
    thin = []
    while part > 1:
        kept, passed = without_families(gathered(lots.get(part, [])), part, p)
        thin.extend(kept)
        part //= p
        lots.setdefault(part, []).extend(passed)
    return gathered(thin + lots.get(1, []))


def without_families(pairs, part, p):
    """The pairs, all of whose periods have this part at the prime p, without whole families.

    They are told as those that are of this part, and those that are of the next lesser one.
    """
    families = {}
    for (m, c, r), tint in pairs:
        key = (tuple([number % part for number in c]), r % (part // p))
        family = families.setdefault(key, {})
        family.setdefault(r % part, []).append(((m, c, r), tint))
    kept, passed = [], []
    for family in families.values():
        sisters = sorted(family.values(), key=len)
        left_out = sisters.pop(0) if len(sisters) == p else []
        for (m, c, r), tint in left_out:
            kept.extend([((m, c, rest), -tint) for rest in sister_rests(m, r, p)])
            passed.append((by_period(m // p, c, r), tint))
        for lot in sisters:
            kept.extend(lot)
    return kept, passed
