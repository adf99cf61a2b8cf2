"""Part 9: floors that come round both ways, told as sums of stripes."""

from math import gcd

from slantpanes.errors import BadFloor, BadHeap
from slantpanes.heaps import has_breadth, is_heap, opposed, tint_on
from slantpanes.plain import great_levels_in, is_level, plain_of, plain_parts
from slantpanes.stripes import dot, is_period
from slantpanes.thinned import thinned
from slantpanes.wholes import common_divisor, common_multiple, divisors_of, is_integer, lowest, sum_number

BREADTH = 2
MOST_CELLS = 36


def is_floor(thing):
    """Whether any value is a floor [9.1]."""
    if not isinstance(thing, tuple) or len(thing) == 0 or not isinstance(thing[0], tuple):
        return False
    sides = sides_of(thing)
    return are_sides(sides) and are_rows_of_sides(thing, sides)


def fitting_levels(sides):
    """The ascending tuple of the levels that fit the sides [9.1]."""
    check_sides(sides)
    return levels_fitting(sides)


def floor_of(heap, sides):
    """The floor with these sides that the look of a heap is, None if the look does not come again by them."""
    if not is_heap(heap) or not has_breadth(heap, BREADTH):
        raise BadHeap(heap)
    check_sides(sides)
    if not all([does_fit(level, sides) for level in great_levels_in(plain_of(heap))]):
        return None
    return in_rows([tint_on(heap, cell) for cell in cells_of(sides)], sides)


def plain_sum(floor):
    """The ascending tuple of the pairs of plain stripes and fractions that make a floor [9.2]."""
    check_floor(floor)
    cells = number_of_cells(floor)
    return tuple([(stripe, lowest(tint, cells)) for stripe, tint in heap_of_cells_times(floor)])


def least_multiple(floor):
    """The least integer from 1 on so many times which a floor is the look of a heap [9.3]."""
    return common_multiple([bottom for _, (_, bottom) in plain_sum(floor)])


def least_heap(floor):
    """The plain heap of a floor, its least multiple times over [9.3]."""
    multiple = least_multiple(floor)
    return tuple([(stripe, top * (multiple // bottom)) for stripe, (top, bottom) in plain_sum(floor)])


def judge_floor(floor):
    """A right paper for a floor [9.4]."""
    for stripe, (_, bottom) in plain_sum(floor):
        if bottom > 1:
            return bar_at(stripe, sides_of(floor))
    return ("heap", least_heap(floor))


def floor_holds(floor, thing):
    """Whether any value is a right paper for a floor."""
    check_floor(floor)
    if not isinstance(thing, tuple) or len(thing) not in (2, 3):
        return False
    if len(thing) == 2:
        return thing[0] == "heap" and is_heap(thing[1]) and is_look_of(floor, thing[1])
    kind, q, weights = thing
    if kind != "bar" or not is_integer(q) or q < 2 or not are_rows_of_sides(weights, sides_of(floor)):
        return False
    return do_bar(floor, q, weights)


# The functions below are for values that are known to be right; only those called are_ and check_ take any values.


def sides_of(floor):
    """The sides of the floor."""
    return (len(floor), len(floor[0]))


def number_of_cells(floor):
    """How many cells the floor has before it comes again."""
    return len(floor) * len(floor[0])


def cells_of(sides):
    """The cells of the box of these sides, row by row."""
    return [(x, y) for x in range(sides[0]) for y in range(sides[1])]


def in_rows(values, sides):
    """The values of the cells, row by row, as a floor."""
    width = sides[1]
    return tuple([tuple(values[x * width:(x + 1) * width]) for x in range(sides[0])])


def does_fit(level, sides):
    """Whether the stripes of the level fit the sides."""
    m, c = level
    return all([number * side % m == 0 for number, side in zip(c, sides)])


def levels_fitting(sides):
    """The ascending tuple of the levels that fit the sides."""
    a, b = sides
    # Each prime power of a period that fits divides one of the sides, as its prime does not divide both numbers.
    return tuple([
        (m, (first, second))
        for m in divisors_of(common_multiple(sides))
        for first in range(0, m, m // gcd(m, a))
        for second in range(0, m, m // gcd(m, b))
        if is_level((m, (first, second)))
    ])


def heap_of_cells_times(floor):
    """The plain heap of the floor, as many times over as it has cells [9.2]."""
    pairs = []
    for m, c in levels_fitting(sides_of(floor)):
        numbers = [sum_number(m, a) for a in range(m)]
        along = [0] * m
        for cell in cells_of(sides_of(floor)):
            along[dot(c, cell) % m] += floor[cell[0]][cell[1]]
        for r in range(m):
            pairs.append(((m, c, r), sum([along[s] * numbers[(r - s) % m] for s in range(m)])))
    return plain_of(pairs)


def bar_at(stripe, sides):
    """The paper that the stripe, which is plain, has in the plain sum a fraction that is not an integer.

    As many times as there are cells, the fraction is the sum of weights times tints. The heap of a stripe that fits
    has an integer in the place of the fraction.
    """
    cells = cells_of(sides)
    weights = [0] * len(cells)
    for m, c in levels_fitting(sides):
        numbers = [sum_number(m, a) for a in range(m)]
        for r in range(m):
            times = sum([sign for part, sign in plain_parts((m, c, r)) if part == stripe])
            if times != 0:
                more = [times * numbers[(r - dot(c, cell)) % m] for cell in cells]
                weights = [weight + add for weight, add in zip(weights, more)]
    divisor = common_divisor(len(cells), weights)
    return ("bar", len(cells) // divisor, in_rows([weight // divisor for weight in weights], sides))


def do_bar(floor, q, weights):
    """Whether the weights bar the floor from being the look of a heap, by q."""
    sides = sides_of(floor)
    total = 0
    for x, y in cells_of(sides):
        total += weights[x][y] * floor[x][y]
    return total % q != 0 and all([are_sums_divisible(level, q, weights) for level in levels_fitting(sides)])


def are_sums_divisible(level, q, weights):
    """Whether q divides the sums of the weights along all stripes of the level, whose period divides those of cells."""
    m, c = level
    along = [0] * m
    for x, y in cells_of(sides_of(weights)):
        along[dot(c, (x, y)) % m] += weights[x][y]
    return all([weight % q == 0 for weight in along])


def is_look_of(floor, heap):
    """Whether the look of the heap is the floor."""
    if not has_breadth(heap, BREADTH) or least_multiple(floor) != 1:
        return False
    # The heap may be of any size, so it is not taken apart.
    return thinned(list(heap) + opposed(least_heap(floor))) == ()


def are_sides(thing):
    """Whether any value is a pair of periods with a product of at most 36."""
    if not isinstance(thing, tuple) or len(thing) != BREADTH:
        return False
    return all([is_period(side) for side in thing]) and thing[0] * thing[1] <= MOST_CELLS


def are_rows_of_sides(thing, sides):
    """Whether any value is a tuple of as many tuples of as many integers as the sides tell."""
    if not isinstance(thing, tuple) or len(thing) != sides[0]:
        return False
    return all([isinstance(row, tuple) and len(row) == sides[1] and are_integers(row) for row in thing])


def are_integers(row):
    """Whether all items are integers."""
    return all([is_integer(item) for item in row])


def check_sides(thing):
    """Raise BadFloor for any value that is not a pair of sides."""
    if not are_sides(thing):
        raise BadFloor(thing)


def check_floor(thing):
    """Raise BadFloor for any value that is not a floor."""
    if not is_floor(thing):
        raise BadFloor(thing)
