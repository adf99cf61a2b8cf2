"""Part 6: stripes that meet, and stripes that never do."""

from slantpanes.bars import bar_of, do_bar_lots_above, heaviest_above, is_bar
from slantpanes.corners import common_cells_of
from slantpanes.errors import BadBound, BadHeap, BadStripes, BelowZero
from slantpanes.heaps import has_breadth, is_heap, tint_on
from slantpanes.stripes import are_stripes, is_cell, lies_on
from slantpanes.wholes import is_integer

MOST_STRIPES = 12
CELL_OF_EMPTY = (0, 0)


def judge_meeting(stripes):
    """A right paper for stripes [6.1]."""
    check_stripes(stripes)
    cells = common_cells_of(stripes)
    if cells is None:
        return ("never", bar_of(stripes))
    return ("meet", cells[0])


def meeting_holds(stripes, thing):
    """Whether any value is a right paper for stripes."""
    check_stripes(stripes)
    if not isinstance(thing, tuple) or len(thing) != 2:
        return False
    kind, told = thing
    if kind == "meet":
        return is_cell(told) and len(told) == len(stripes[0][1]) and all([lies_on(stripe, told) for stripe in stripes])
    return kind == "never" and is_bar(stripes, told)


def do_meet(stripes):
    """Whether stripes meet."""
    check_stripes(stripes)
    return common_cells_of(stripes) is not None


def common_cells(stripes):
    """The least cell that lies on all stripes and the corner rows of the steps between such cells [6.2], or None."""
    check_stripes(stripes)
    cells = common_cells_of(stripes)
    if cells is None:
        return None
    cell, rows = cells
    return (cell, tuple(rows))


def greatest_tint(heap):
    """The greatest tint of a heap all of whose tints are above 0, and a cell that has it [6.3]."""
    check_bright_heap(heap)
    weight, cell, _ = heaviest_above(heap, 0)
    if cell is None:
        return (0, CELL_OF_EMPTY)
    return (weight, cell)


def judge_never_above(heap, bound):
    """A right paper for a heap all of whose tints are above 0, and an integer [6.3]."""
    check_bright_heap(heap)
    check_bound(bound)
    _, cell, bars = heaviest_above(heap, bound)
    if cell is None:
        return ("never", bars)
    return ("above", cell)


def never_above_holds(heap, bound, thing):
    """Whether any value is a right paper for a heap all of whose tints are above 0, and an integer."""
    check_bright_heap(heap)
    check_bound(bound)
    if not isinstance(thing, tuple) or len(thing) != 2:
        return False
    kind, told = thing
    if kind == "above":
        return is_cell_above(heap, bound, told)
    return kind == "never" and are_bars(heap, told) and do_bar_lots_above(heap, bound, told)


def is_cell_above(heap, bound, thing):
    """Whether any value is a cell of the heap's breadth at which the tint is above the bound."""
    return is_cell(thing) and has_breadth(heap, len(thing)) and tint_on(heap, thing) > bound


def are_bars(heap, thing):
    """Whether any value is a tuple of bars of the stripes of the heap; an empty heap has none."""
    if not isinstance(thing, tuple):
        return False
    stripes = [stripe for stripe, _ in heap]
    return thing == () or (len(stripes) > 0 and all([is_bar(stripes, item) for item in thing]))


def is_bound(thing):
    """Whether any value is an integer from 0 on."""
    return is_integer(thing) and thing >= 0


def check_bound(thing):
    """Raise BadBound for any value that is not an integer from 0 on."""
    if not is_bound(thing):
        raise BadBound(thing)


def check_stripes(thing):
    """Raise BadStripes for any value that is not a tuple of one to twelve stripes of one breadth."""
    if not are_stripes(thing, MOST_STRIPES):
        raise BadStripes(thing)


def check_bright_heap(thing):
    """Raise the errors that are due for any value that is not a heap of at most twelve pairs with tints above 0."""
    if not is_heap(thing) or len(thing) > MOST_STRIPES:
        raise BadHeap(thing)
    for stripe, tint in thing:
        if tint < 0:
            raise BelowZero(stripe)
