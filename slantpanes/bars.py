"""Bars of stripes that never meet [6.1], and the heaviest lot of stripes that meet [6.3].

Stripes that never meet are barred by one prime p alone. P being the greatest power of p in the periods, each stripe
tells a row of its numbers c and r, as many times as P is greater than its own power of p, by P; and with them goes by
which factors a row is made of those of the stripes. Rows are taken from one another until all numbers c are 0. Each
time the row goes ahead that has the number with the least power of p in it, so that all others come to 0 there: then
at most d rows go ahead, and a row that is left is made of itself and of them, that is of d + 1 stripes at most. A
multiple of a row whose numbers c are all 0 by P, and whose number r is not, is a bar.
"""

from math import gcd

from slantpanes.corners import all_cells, cells_narrowed
from slantpanes.heaps import breadth_of_heap
from slantpanes.wholes import common_multiple, inverse, is_integer, part_at, primes_of


def is_bar(stripes, thing):
    """Whether any value is a bar of the stripes."""
    if not isinstance(thing, tuple) or not 1 <= len(thing) <= len(stripes[0][1]) + 1:
        return False
    if not all([is_part_of_bar(stripes, item) for item in thing]):
        return False
    numbers = [number for number, _ in thing]
    if not all([before < behind for before, behind in zip(numbers, numbers[1:])]):
        return False
    return does_bar(stripes, thing)


def is_part_of_bar(stripes, thing):
    """Whether any value is a pair of the number of a stripe and an integer that is not 0."""
    if not isinstance(thing, tuple) or len(thing) != 2:
        return False
    number, times = thing
    return is_integer(number) and 0 <= number < len(stripes) and is_integer(times) and times != 0


# The functions below are for values that are known to be right.


def does_bar(stripes, bar):
    """Whether the sums that the pairs of numbers and integers tell contradict a common cell."""
    whole = common_multiple([stripes[number][0] for number, _ in bar])
    sums = [0] * (len(stripes[0][1]) + 1)
    for number, times in bar:
        m, c, r = stripes[number]
        sums = [along + times * (whole // m) * more for along, more in zip(sums, (*c, r))]
    *of_numbers, of_rests = sums
    return all([along % whole == 0 for along in of_numbers]) and of_rests % whole != 0


def bar_of(stripes):
    """A bar of stripes that never meet."""
    for p in primes_of(common_multiple([m for m, _, _ in stripes])):
        factors = barring_factors(stripes, p)
        if factors is not None:
            return bar_by(stripes, p, factors)
    return None


def barring_factors(stripes, p):
    """The factors of a bar with which the rows of the stripes at the prime p are taken, None if there is none."""
    breadth = len(stripes[0][1])
    power = max([part_at(m, p) for m, _, _ in stripes])
    left = [row_at(stripes, number, p, power) for number in range(len(stripes))]
    while left:
        part, at, place = min([
            (gcd(row[place], power), at, place) for at, row in enumerate(left) for place in range(breadth)
        ])
        ahead = left.pop(at)
        times = power // part
        if times * ahead[breadth] % power != 0:
            return [times * factor for factor in ahead[breadth + 1:]]
        left = [row_without(row, ahead, place, power) for row in left]
    return None


def row_at(stripes, number, p, power):
    """The row of the stripe of this number: its numbers c and r, and behind them the factors of all stripes."""
    m, c, r = stripes[number]
    times = power // part_at(m, p)
    return [times * along for along in (*c, r)] + [int(at == number) for at in range(len(stripes))]


def row_without(row, ahead, place, power):
    """The row less as many times the one ahead as make the number in the place 0.

    No power of the prime is in the number of the row that is not in that of the one ahead.
    """
    if row[place] % power == 0:
        return row
    part = gcd(ahead[place], power)
    times = row[place] // part * inverse(ahead[place] // part, power)
    return [(number - times * more) % power for number, more in zip(row, ahead)]


def bar_by(stripes, p, factors):
    """The bar of these factors at the prime p."""
    bar = []
    for number, (stripe, factor) in enumerate(zip(stripes, factors)):
        part = part_at(stripe[0], p)
        if factor % part != 0:
            bar.append((number, factor % part * (stripe[0] // part)))
    return tuple(bar)


def heaviest_above(heap, bound):
    """The greatest tint above the bound that a heap has, if it has one, with a cell of it, and bars.

    All tints of the heap are above 0. Without such a cell, which then is None, some bar is within each lot of stripes
    whose tints have a sum above the bound: on the way to the lot, taking stripe after stripe, one could not be taken.
    """
    tints = [tint for _, tint in heap]
    best, best_cell, bars, masks = bound, None, [], []
    ahead = [(0, (), 0, all_cells(breadth_of_heap(heap)))] if heap else []
    while ahead:
        at, lot, weight, cells = ahead.pop()
        if weight > best:
            best, best_cell = weight, cells[0]
        if weight + sum(tints[at:]) <= best:
            continue
        ahead.append((at + 1, lot, weight, cells))
        wider = (*lot, at)
        if contains_one(mask_of(wider), masks):
            continue
        narrower = cells_narrowed(cells, heap[at][0])
        if narrower is None:
            bar = bar_of_lot(heap, wider)
            bars.append(bar)
            masks.append(mask_of([number for number, _ in bar]))
        else:
            ahead.append((at + 1, wider, weight + tints[at], narrower))
    return best, best_cell, tuple(bars)


def bar_of_lot(heap, lot):
    """A bar of the stripes of a lot, told by their numbers in the heap; they never meet."""
    return tuple([(lot[number], times) for number, times in bar_of([heap[at][0] for at in lot])])


def do_bar_lots_above(heap, bound, bars):
    """Whether each lot of stripes of the heap whose tints have a sum above the bound contains all those of some bar."""
    weights = [0]
    for _, tint in heap:
        weights = weights + [weight + tint for weight in weights]
    masks = sorted({mask_of([number for number, _ in bar]) for bar in bars})
    return all([contains_one(lot, masks) for lot, weight in enumerate(weights) if weight > bound])


def mask_of(numbers):
    """The integer whose binary figures tell which numbers are there."""
    return sum([1 << number for number in numbers])


def contains_one(lot, masks):
    """Whether all figures of one of the masks are in that of the lot."""
    return any([lot & mask == mask for mask in masks])
