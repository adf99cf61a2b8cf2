"""Part 10: lamps by a prime, and their forms."""

from math import comb

from slantpanes.errors import BadPrime
from slantpanes.heaps import check_cell, check_heap, check_heaps, has_breadth, opposed, tint_on
from slantpanes.plain import plain_of, plain_parts
from slantpanes.stripes import by_period, is_cell, is_stripe, lies_on
from slantpanes.wholes import common_multiple, is_integer, one_at, part_at

LAMP_PRIMES = (2, 3, 5, 7)


def lamp_at(heap, p, cell):
    """The lamp of a heap at a cell [10.1]."""
    check_heap(heap)
    check_prime(p, LAMP_PRIMES)
    check_cell(heap, cell)
    return tint_on(heap, cell) % p


def lamp_form(heap, p):
    """The lamp form of a heap [10.4]."""
    check_heap(heap)
    check_prime(p, LAMP_PRIMES)
    return form_of(heap, p)


def lamp_degree(heap, p):
    """The degree of the lamp form of a heap [10.4]."""
    return max([-1, *[sum(k) for _, k, _ in lamp_form(heap, p)]])


def do_shine_alike(one, other, p):
    """Whether two heaps shine alike by a prime [10.1]."""
    check_heaps(one, other)
    check_prime(p, LAMP_PRIMES)
    return form_of(one, p) == form_of(other, p)


def judge_lamps(one, other, p):
    """A right paper for two heaps and a prime [10.6]."""
    if do_shine_alike(one, other, p):
        return ("alike", form_of(one, p))
    return ("apart", cell_with_lamp(list(one) + opposed(other), p))


def lamps_hold(one, other, p, thing):
    """Whether any value is a right paper for two heaps and a prime."""
    check_heaps(one, other)
    check_prime(p, LAMP_PRIMES)
    if not isinstance(thing, tuple) or len(thing) != 2:
        return False
    kind, told = thing
    if kind == "alike":
        return are_triples(told) and told == form_of(one, p) and told == form_of(other, p)
    if kind == "apart":
        return is_cell(told) and has_breadth(one + other, len(told)) and have_unlike_lamps(one, other, p, told)
    return False


# The functions below are for values that are known to be right; only those called are_, is_ and check_ take any values.


def have_unlike_lamps(one, other, p, cell):
    """Whether the lamps of the heaps at the cell are unlike."""
    return (tint_on(one, cell) - tint_on(other, cell)) % p != 0


def form_of(heap, p):
    """The lamp form of the heap."""
    numbers = {}
    for stripe, tint in heap:
        choices = choices_of(part_stripe(stripe, p), p)
        for rest, sign in plain_parts(rest_stripe(stripe, p)):
            for k, number in choices.items():
                numbers[(rest, k)] = (numbers.get((rest, k), 0) + sign * tint * number) % p
    return tuple(sorted([(rest, k, number) for (rest, k), number in numbers.items() if number != 0]))


def part_stripe(stripe, p):
    """The p-stripe of the stripe [10.2]."""
    m, c, r = stripe
    return by_period(part_at(m, p), c, r)


def rest_stripe(stripe, p):
    """The rest stripe of the stripe [10.2]."""
    m, c, r = stripe
    return by_period(m // part_at(m, p), c, r)


def choices_of(stripe, p):
    """For each k the number by p with which C(x, k) is taken, where it is not 0, so that all make the stripe [10.3].

    The period is a power of p. In each place these numbers are those of the differences of the lamps, again and again.
    """
    q, c, _ = stripe
    signs = [[(-1 if (k - j) % 2 else 1) * comb(k, j) % p for j in range(k + 1)] for k in range(q)]
    numbers = {cell: int(lies_on(stripe, cell)) for cell in box(len(c), q)}
    for place in range(len(c)):
        numbers = {k: differed(numbers, k, place, signs[k[place]]) % p for k in numbers}
    return {k: numbers[k] for k in numbers if numbers[k] != 0}


def differed(numbers, k, place, signs):
    """The difference, so many times over as k tells in the place, of the numbers along the place."""
    before, behind = k[:place], k[place + 1:]
    cells = [(*before, j, *behind) for j in range(len(signs))]
    return sum([sign * numbers[cell] for cell, sign in zip(cells, signs)])


def box(breadth, side):
    """The cells with numbers from 0 to side - 1."""
    cells = [()]
    for _ in range(breadth):
        cells = [(*cell, number) for cell in cells for number in range(side)]
    return cells


def cell_with_lamp(pairs, p):
    """A cell at which the lamp of the pairs of stripes and tints, which do not all shine as 0, is not 0.

    At all cells that are alike by the p-parts the same rest stripes shine; by p they have a plain heap, too.
    """
    breadth = len(pairs[0][0][1])
    part = common_multiple([part_at(m, p) for (m, _, _), _ in pairs])
    rest = common_multiple([m // part_at(m, p) for (m, _, _), _ in pairs])
    one = one_at(part * rest, p)
    for cell in box(breadth, part):
        lit = [(rest_stripe(stripe, p), tint) for stripe, tint in pairs if lies_on(part_stripe(stripe, p), cell)]
        if any([tint % p != 0 for _, tint in plain_of(lit)]):
            at_rest = [other for other in box(breadth, rest) if tint_on(lit, other) % p != 0][0]
            return tuple([
                (one * number + (1 - one) * more) % (part * rest) for number, more in zip(cell, at_rest)
            ])
    return None


def are_triples(thing):
    """Whether any value is a tuple of triples of a stripe, a tuple of integers and an integer."""
    return isinstance(thing, tuple) and all([is_triple(item) for item in thing])


def is_triple(thing):
    """Whether any value is a triple of a stripe, a tuple of integers and an integer."""
    if not isinstance(thing, tuple) or len(thing) != 3:
        return False
    return is_stripe(thing[0]) and is_cell(thing[1]) and is_integer(thing[2])


def check_prime(thing, primes):
    """Raise BadPrime for any value that is not one of the primes."""
    if not is_integer(thing) or thing not in primes:
        raise BadPrime(thing)
