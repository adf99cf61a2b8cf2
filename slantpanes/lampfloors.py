"""Part 10: lamp floors, and which of them are those of heaps [10.5]."""

from math import comb

from slantpanes.errors import BadFloor
from slantpanes.floors import are_rows_of_sides, cells_of, do_bar, in_rows, levels_fitting
from slantpanes.heaps import has_breadth, is_heap, tint_on
from slantpanes.lamps import check_prime
from slantpanes.plain import is_low
from slantpanes.stripes import lies_on
from slantpanes.wholes import inverse

BREADTH = 2
FLOOR_PRIMES = (2, 3, 5)


def judge_lamp_floor(floor, p):
    """A right paper for a lamp floor [10.5]."""
    check_lamp_floor(floor, p)
    for weights in barring_weights(p):
        if do_bar(floor, p, weights):
            return ("bar", weights)
    return ("heap", heap_shining(floor, p))


def lamp_floor_holds(floor, p, thing):
    """Whether any value is a right paper for a lamp floor."""
    check_lamp_floor(floor, p)
    if not isinstance(thing, tuple) or len(thing) != 2:
        return False
    kind, told = thing
    if kind == "heap":
        return is_heap(told) and does_shine(told, floor, p)
    return kind == "bar" and are_rows_of_sides(told, (p, p)) and do_bar(floor, p, told)


# The functions below are for values that are known to be right; only those called are_ and check_ take any values.


def does_shine(heap, floor, p):
    """Whether the heap, all of whose periods are to divide p, has the lamps of the floor."""
    if not has_breadth(heap, BREADTH) or not all([p % stripe[0] == 0 for stripe, _ in heap]):
        return False
    return all([tint_on(heap, (x, y)) % p == floor[x][y] for x, y in cells_of((p, p))])


def barring_weights(p):
    """Weights of the degrees up to p - 2; by p all weights of these degrees are sums of multiples of them [9.5]."""
    return [
        in_rows([comb(x, k) * comb(y, j) for x, y in cells_of((p, p))], (p, p))
        for k in range(p - 1) for j in range(p - 1 - k)
    ]


def heap_shining(floor, p):
    """A heap, all of whose periods divide p, that has the lamps of the floor, which are those of some heap."""
    # Each other stripe is made of plain ones.
    stripes = [(m, c, r) for m, c in levels_fitting((p, p)) for r in range(m) if m == 1 or is_low(r, m, p)]
    rows = [[int(lies_on(stripe, cell)) for stripe in stripes] + [floor[cell[0]][cell[1]]] for cell in cells_of((p, p))]
    tints = solved_by(rows, p)
    return tuple([(stripe, tint) for stripe, tint in zip(stripes, tints) if tint != 0])


def solved_by(rows, p):
    """Numbers by p with which each row, but for its last number, has this last number as product by p.

    There are such numbers.
    """
    found = []
    for row in rows:
        left = row
        for place, other in found:
            left = row_less_by(left, other, place, p)
        places = [place for place, number in enumerate(left[:-1]) if number != 0]
        if places:
            first = places[0]
            factor = inverse(left[first], p)
            ahead = [factor * number % p for number in left]
            found = [(place, row_less_by(other, ahead, first, p)) for place, other in found] + [(first, ahead)]
    numbers = [0] * (len(rows[0]) - 1)
    for place, row in found:
        numbers[place] = row[-1]
    return numbers


def row_less_by(row, other, place, p):
    """The row less a multiple of the other one, by p, with 0 in the place, where the other one has 1."""
    return [(number - row[place] * more) % p for number, more in zip(row, other)]


def check_lamp_floor(floor, p):
    """Raise the errors that are due for any values that are not a prime, and a lamp floor by it."""
    check_prime(p, FLOOR_PRIMES)
    if not are_rows_of_sides(floor, (p, p)) or not all([0 <= lamp < p for row in floor for lamp in row]):
        raise BadFloor(floor)
