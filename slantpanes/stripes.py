"""Part 1: cells, periods and stripes."""

from slantpanes.errors import BadCell, BadCount, BadPeriod, BadStripe
from slantpanes.wholes import common_divisor, inverse, is_integer, one_at, part_at, primes_of

MOST_BREADTH = 3
MOST_PRIMES_MULTIPLIED = 1000


def is_period(thing):
    """Whether any value is a period [1.2]."""
    if not is_integer(thing) or thing < 1:
        return False
    rest, multiplied = thing, 1
    for p in primes_of(thing):
        rest //= part_at(rest, p)
        multiplied *= p
    return rest == 1 and multiplied <= MOST_PRIMES_MULTIPLIED


def is_cell(thing):
    """Whether any value is a tuple of one to three integers."""
    if not isinstance(thing, tuple) or not 1 <= len(thing) <= MOST_BREADTH:
        return False
    return all([is_integer(number) for number in thing])


def is_stripe(thing):
    """Whether any value is a stripe [1.3]."""
    if not isinstance(thing, tuple) or len(thing) != 3:
        return False
    m, c, r = thing
    if not is_period(m) or not is_cell(c) or not is_integer(r):
        return False
    if not all([0 <= number < m for number in (*c, r)]):
        return False
    return common_divisor(m, c) == 1


def are_stripes(thing, most):
    """Whether any value is a tuple of one or more stripes of one breadth, at most so many."""
    if not isinstance(thing, tuple) or not 1 <= len(thing) <= most:
        return False
    if not all([is_stripe(item) for item in thing]):
        return False
    return all([len(stripe[1]) == len(thing[0][1]) for stripe in thing])


def prime_powers(period):
    """The ascending tuple of the prime powers of a period."""
    if not is_period(period):
        raise BadPeriod(period)
    return tuple(sorted([part_at(period, p) for p in primes_of(period)]))


def breadth_of(stripe):
    """The breadth of a stripe."""
    check_stripe(stripe)
    return len(stripe[1])


def normal_stripe(stripe):
    """The normal form of a stripe [1.4]."""
    check_stripe(stripe)
    return normal_form(stripe)


def are_same(one, other):
    """Whether two stripes have the same cells."""
    check_stripe(one)
    check_stripe(other)
    return normal_form(one) == normal_form(other)


def is_on(stripe, cell):
    """Whether a cell lies on a stripe of its breadth."""
    check_stripe(stripe)
    if not is_cell(cell) or len(cell) != len(stripe[1]):
        raise BadCell(cell)
    return lies_on(stripe, cell)


def stripe_by(step, period, r):
    """The normal stripe of the cells x for which the period divides step . x - r, None if there are none [1.5]."""
    if not is_cell(step):
        raise BadCell(step)
    if not is_period(period):
        raise BadPeriod(period)
    if not is_integer(r):
        raise BadCount(r)
    stripe = stripe_told_by(period, step, r)
    if stripe is None:
        return None
    return normal_form(stripe)


# The functions below are for values that are known to be right: they check nothing, as they are called often.


def lies_on(stripe, cell):
    """Whether the cell lies on the stripe."""
    m, c, r = stripe
    return (dot(c, cell) - r) % m == 0


def dot(c, x):
    """The sum of all c_i x_i."""
    return sum([number * along for number, along in zip(c, x)])


def by_period(m, c, r):
    """The stripe of the period m with the numbers c and r by m, if no prime of m divides all c."""
    return (m, tuple([number % m for number in c]), r % m)


def normal_form(stripe):
    """The normal form of the stripe."""
    m, c, r = stripe
    factor = normal_factor(m, c)
    return by_period(m, [factor * number for number in c], factor * r)


def normal_factor(m, c):
    """An integer with which the numbers c become normal by m."""
    return sum([one_at(m, p) * inverse(c[first_place(c, p)], part_at(m, p)) for p in primes_of(m)])


def first_place(c, p):
    """The place of the first of the numbers c that the prime p does not divide."""
    return [place for place, number in enumerate(c) if number % p != 0][0]


def moved_stripe(stripe, step):
    """The stripe moved by the step [3.1]."""
    m, c, r = stripe
    return (m, c, (r + dot(c, step)) % m)


def opposite(step):
    """The step back."""
    return tuple([-number for number in step])


def cell_on(stripe):
    """A cell of numbers from 0 to m - 1 that lies on the stripe."""
    m, c, r = normal_form(stripe)
    cell = [0] * len(c)
    for p in primes_of(m):
        # By each prime power c . cell is r, as there is a 1 in this place of the normal numbers.
        cell[first_place(c, p)] += r * one_at(m, p)
    return tuple([number % m for number in cell])


def stripe_told_by(period, numbers, r):
    """The stripe of [1.5], not yet normal, or None."""
    g = common_divisor(period, numbers)
    if r % g != 0:
        return None
    return by_period(period // g, [number // g for number in numbers], r // g)


def check_stripe(thing):
    """Raise BadStripe for any value that is not a stripe."""
    if not is_stripe(thing):
        raise BadStripe(thing)
