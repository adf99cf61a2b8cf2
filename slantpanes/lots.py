"""Levels that one direction holds, and the fewest lots of such levels."""

from slantpanes.wholes import common_divisor, common_multiple, one_at, part_at, primes_of


def are_friends(one, other):
    """Whether some direction holds both levels [5.5]."""
    m, c = one
    n, b = other
    common = common_divisor(m, [n])
    # The normal numbers of a level are normal by each divisor of its period, too.
    return all([(number - along) % common == 0 for number, along in zip(c, b)])


def fewest_lots(levels):
    """The levels in as few lots as can be, each two in a lot being friends."""
    many, lots = 0, put_in_lots(levels, [], 0)
    while lots is None:
        many += 1
        lots = put_in_lots(levels, [], many)
    return lots


def put_in_lots(levels, lots, many):
    """The lots with the levels put into them and into new ones, at most so many in all, None if they do not go in."""
    if len(levels) == 0:
        return lots
    level = levels[0]
    for at, lot in enumerate(lots):
        if all([are_friends(level, other) for other in lot]):
            found = put_in_lots(levels[1:], [*lots[:at], [*lot, level], *lots[at + 1:]], many)
            if found is not None:
                return found
    if len(lots) < many:
        return put_in_lots(levels[1:], [*lots, [level]], many)
    return None


def direction_holding(lot):
    """A direction that holds all levels of the lot, each two of which are friends."""
    period = common_multiple([m for m, _ in lot])
    numbers = [0 for _ in lot[0][1]]
    for p in primes_of(period):
        # The greatest power of p tells the numbers by all lesser ones.
        _, c = max([(part_at(m, p), c) for m, c in lot])
        one = one_at(period, p)
        numbers = [number + one * along for number, along in zip(numbers, c)]
    return without_divisor([number % period for number in numbers], period)


def without_divisor(numbers, period):
    """The numbers, made greater by multiples of the period, so that only 1 and -1 divide all of them.

    No prime of the period divides all of the numbers. Any other prime that divides all but the last one bars, of
    the sums of the last one and multiples of the period, only one in as many as itself: a small multiple will do.
    """
    *before, last = numbers
    while common_divisor(last, before) != 1:
        last += period
    return (*before, last)
