"""Part 7: means of looks and of products of looks."""

from slantpanes.errors import OtherBreadth
from slantpanes.heaps import check_cell, check_heap, check_heaps, moved_pairs, normal_pairs, opposed
from slantpanes.stripes import check_stripe, normal_form, opposite
from slantpanes.wholes import common_divisor, common_multiple, lowest


def mean(heap):
    """The mean of the look of a heap [7.1]."""
    check_heap(heap)
    whole = common_multiple([stripe[0] for stripe, _ in heap])
    return lowest(sum([tint * (whole // stripe[0]) for stripe, tint in heap]), whole)


def distance(one, other):
    """The mean of the square of the difference of two looks [7.2]."""
    check_heaps(one, other)
    difference = list(one) + opposed(other)
    return mean_of_product(difference, difference)


def likeness(one, other, step):
    """The likeness of two looks at a step [7.3]."""
    check_heaps(one, other)
    check_cell(one + other, step)
    # What the second one has at x + step comes to x by the step back.
    return mean_of_product(one, moved_pairs(other, opposite(step)))


def share_of_both(one, other):
    """The share of the cells that lie on two stripes [7.1]."""
    check_stripe(one)
    check_stripe(other)
    if len(one[1]) != len(other[1]):
        raise OtherBreadth(other)
    return lowest(common_share(normal_form(one), normal_form(other)), one[0] * other[0])


# The functions below are for values that are known to be right.


def common_share(one, other):
    """The share of the cells that lie on two normal stripes, times both periods."""
    m, c, r = one
    n, b, s = other
    common = common_part((m, c), (n, b))
    return common if (s - r) % common == 0 else 0


def common_part(one, other):
    """The number g of [7.1] of two levels.

    The k is 1 for normal numbers: by each prime of g both have the same first number that it does not divide, and
    that is 1 by the power of the prime.
    """
    m, c = one
    n, b = other
    return common_divisor(m, [n, *[along - number for number, along in zip(c, b)]])


def mean_of_product(one, other):
    """The mean of the product of the looks of two sums of stripes and tints."""
    ones, others = tints_by_level(one), tints_by_level(other)
    whole = common_multiple([m for m, _ in ones]) * common_multiple([n for n, _ in others])
    total = 0
    for level, tints in ones.items():
        for level_of_other, tints_of_other in others.items():
            common = common_part(level, level_of_other)
            products = sum_of_products(tints, tints_of_other, common)
            total += products * common * (whole // (level[0] * level_of_other[0]))
    return lowest(total, whole)


def tints_by_level(pairs):
    """For each level of the stripes, made normal, the pairs of their numbers r and their tints."""
    levels = {}
    for (m, c, r), tint in normal_pairs(pairs):
        levels.setdefault((m, c), []).append((r, tint))
    return levels


def sum_of_products(tints, others, common):
    """The sum of the products of all tints whose numbers are alike by the common part."""
    sums = {}
    for r, tint in tints:
        sums[r % common] = sums.get(r % common, 0) + tint
    return sum([tint * sums.get(s % common, 0) for s, tint in others])
