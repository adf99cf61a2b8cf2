"""Part 4: steps that leave a look as it is."""

from math import gcd

from slantpanes.corners import rows_within, unit_steps
from slantpanes.heaps import breadth_of_heap, check_cell, check_heap, moved_pairs, opposed, tint_on
from slantpanes.parting import cell_not_zero
from slantpanes.plain import great_levels_in, plain_of
from slantpanes.stripes import dot, is_cell, opposite
from slantpanes.wholes import common_multiple

BREADTH_OF_EMPTY = 2


def is_return(heap, step):
    """Whether a step leaves the look of a heap as it is [4.1]."""
    check_heap(heap)
    check_cell(heap, step)
    return all([dot(c, step) % m == 0 for m, c in telling_levels(heap)])


def comes_again(heap, step):
    """The least n from 1 on such that n times the step is a return [4.2]."""
    check_heap(heap)
    check_cell(heap, step)
    return common_multiple([m // gcd(m, dot(c, step)) for m, c in telling_levels(heap)])


def corner_rows(heap):
    """The corner rows of the returns of the look of a heap [4.1]."""
    check_heap(heap)
    breadth = breadth_of_heap(heap) if heap else BREADTH_OF_EMPTY
    rows = unit_steps(breadth)
    for level in telling_levels(heap):
        rows = rows_within(rows, level)
    return tuple(rows)


def looks_by_moving(heap):
    """The number of unlike looks that come of moving the look of a heap."""
    many = 1
    for place, row in enumerate(corner_rows(heap)):
        many *= row[place]
    return many


def judge_return(heap, step):
    """A right paper for a look and a step [4.3]."""
    if is_return(heap, step):
        return ("return",)
    # What lies at x + step comes to x by the step back.
    return ("apart", cell_not_zero(list(heap) + opposed(moved_pairs(heap, opposite(step)))))


def return_holds(heap, step, thing):
    """Whether any value is a right paper for a look and a step."""
    check_heap(heap)
    check_cell(heap, step)
    if not isinstance(thing, tuple) or len(thing) not in (1, 2):
        return False
    if len(thing) == 1:
        return thing[0] == "return" and is_return(heap, step)
    return thing[0] == "apart" and is_cell(thing[1]) and do_part_along(heap, thing[1], step)


def do_part_along(heap, cell, step):
    """Whether the tints at the cell and at the cell plus the step, which is of the heap's breadth, are unlike."""
    if len(cell) != len(step):
        return False
    behind = tuple([number + more for number, more in zip(cell, step)])
    return tint_on(heap, cell) != tint_on(heap, behind)


def telling_levels(heap):
    """The levels that tell the returns: a step that suits a level suits all levels within it, too."""
    return great_levels_in(plain_of(heap))
