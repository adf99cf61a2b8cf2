"""Part 5: looks that are laid by panes of stripes in one direction."""

from slantpanes.errors import BadDirection, BadDirections, BadHeap, BadRow, OtherBreadth
from slantpanes.heaps import gathered, has_breadth, is_heap, normal_pairs, opposed
from slantpanes.lots import direction_holding, fewest_lots
from slantpanes.plain import great_levels_in, is_level, levels_in, plain_of
from slantpanes.stripes import by_period, dot, is_cell, normal_factor, normal_form
from slantpanes.thinned import thinned
from slantpanes.wholes import common_divisor, divisor_with_factors

MOST_DIRECTIONS = 6


def is_direction(thing):
    """Whether any value is a direction [5.1]."""
    if not is_cell(thing) or len(thing) == 1 or common_divisor(0, thing) != 1:
        return False
    return [number for number in thing if number != 0][0] > 0


def is_row(thing):
    """Whether any value is a row [5.1]."""
    return is_heap(thing) and has_breadth(thing, 1)


def is_pane(thing):
    """Whether any value is a pane [5.1]."""
    return isinstance(thing, tuple) and len(thing) == 2 and is_direction(thing[0]) and is_row(thing[1])


def laid(direction, row):
    """The heap of a laid pane."""
    check_direction(direction)
    if not is_row(row):
        raise BadRow(row)
    return normal_pairs(laid_pairs(direction, row))


def does_hold(direction, level):
    """Whether a direction holds a level [5.2], which any value that is none is not."""
    check_direction(direction)
    return is_level(level) and holds(direction, level)


def cross_number(one, other):
    """The cross number of two different directions [5.4]."""
    check_direction(one)
    check_direction(other)
    if len(one) != len(other):
        raise OtherBreadth(other)
    if one == other:
        raise BadDirection(other)
    places = range(len(one))
    return common_divisor(0, [one[i] * other[j] - one[j] * other[i] for i in places for j in places if i < j])


def exchanged(one, other, row):
    """The plain row whose pane with the direction other looks like that of the row with one [5.4]."""
    cross = cross_number(one, other)
    if not is_row(row):
        raise BadRow(row)
    # A row of any size may be passed, so its period is told without taking it apart.
    thin = thinned(row)
    if not all([cross % stripe[0] == 0 for stripe, _ in thin]):
        raise BadRow(row)
    # As other is alike k one by the cross number, and these factors make one of the numbers of one.
    _, factors = divisor_with_factors(one)
    k = dot(factors, other)
    return plain_of([(by_period(m, c, k * r), tint) for (m, c, r), tint in thin])


def judge_panes(heap, directions):
    """A right paper for a heap and told directions [5.3]."""
    check_wide_heap(heap)
    check_directions(heap, directions)
    plain = plain_of(heap)
    holders = {level: holder_of(level, directions) for level in levels_in(plain)}
    rows = [[] for _ in directions]
    for (m, c, r), tint in plain:
        at = holders[(m, c)]
        if at is None:
            return ("bar", (m, c))
        rows[at].append((row_stripe(directions[at], (m, c, r)), tint))
    return ("panes", tuple([gathered(row) for row in rows]))


def panes_hold(heap, directions, thing):
    """Whether any value is a right paper for a heap and told directions."""
    check_wide_heap(heap)
    check_directions(heap, directions)
    if not isinstance(thing, tuple) or len(thing) != 2:
        return False
    kind, told = thing
    if kind == "panes":
        return are_rows(told, len(directions)) and do_lay(heap, directions, told)
    if kind == "bar":
        return is_level(told) and told in levels_in(plain_of(heap)) and holder_of(told, directions) is None
    return False


def fewest_directions(heap):
    """As few directions as hold all levels of the look of a heap [5.5], ascending."""
    check_wide_heap(heap)
    lots = fewest_lots(great_levels_in(plain_of(heap)))
    return tuple(sorted([direction_holding(lot) for lot in lots]))


# The functions below are for values that are known to be right; only those called is_, are_ and check_ take any ones.


def laid_pairs(direction, row):
    """The stripes of the laid pane, not yet normal, with their tints."""
    return [(by_period(m, [c[0] * number for number in direction], r), tint) for (m, c, r), tint in row]


def do_lay(heap, directions, rows):
    """Whether the laid panes, added up, look like the heap."""
    pairs = opposed(heap)
    for direction, row in zip(directions, rows):
        pairs.extend(laid_pairs(direction, row))
    return thinned(pairs) == ()


def holds(direction, level):
    """Whether the direction holds the level."""
    m, c = level
    return normal_form(by_period(m, direction, 0))[1] == c


def holder_of(level, directions):
    """The number of the first of the directions that holds the level, None if there is none."""
    for at, direction in enumerate(directions):
        if holds(direction, level):
            return at
    return None


def row_stripe(direction, stripe):
    """The stripe of a row that, laid by the direction, which holds its level, has the cells of the normal stripe."""
    m, _, r = stripe
    return normal_form(by_period(m, [normal_factor(m, direction)], r))


def are_rows(thing, many):
    """Whether any value is a tuple of so many rows."""
    return isinstance(thing, tuple) and len(thing) == many and all([is_row(row) for row in thing])


def are_directions(thing):
    """Whether any value is an ascending tuple of one to six directions of one breadth."""
    if not isinstance(thing, tuple) or not 1 <= len(thing) <= MOST_DIRECTIONS:
        return False
    # Only when all items are known to be directions can the first one be measured for the others.
    if not all([is_direction(item) for item in thing]):
        return False
    if not all([len(item) == len(thing[0]) for item in thing]):
        return False
    return all([before < behind for before, behind in zip(thing, thing[1:])])


def check_direction(thing):
    """Raise BadDirection for any value that is not a direction."""
    if not is_direction(thing):
        raise BadDirection(thing)


def check_wide_heap(thing):
    """Raise BadHeap for any value that is not a heap of the breadth 2 or 3 or empty."""
    if not is_heap(thing) or (thing and has_breadth(thing, 1)):
        raise BadHeap(thing)


def check_directions(heap, thing):
    """Raise BadDirections for any value that is not told directions of the breadth of the heap."""
    if not are_directions(thing) or not has_breadth(heap, len(thing[0])):
        raise BadDirections(thing)
