"""Part 2: heaps, and the tints in them."""

from slantpanes.errors import BadCell, BadCount, BadHeap, OtherBreadth
from slantpanes.stripes import is_cell, is_stripe, lies_on, moved_stripe, normal_form
from slantpanes.wholes import is_integer


def is_heap(thing):
    """Whether any value is a heap [2.1], of any length."""
    if not isinstance(thing, tuple) or not all([is_stripe_with_tint(item) for item in thing]):
        return False
    stripes = [stripe for stripe, _ in thing]
    if not all([len(stripe[1]) == len(stripes[0][1]) for stripe in stripes]):
        return False
    # The stripes alone ascend exactly if the pairs do and no stripe comes twice.
    return all([before < behind for before, behind in zip(stripes, stripes[1:])])


def is_stripe_with_tint(thing):
    """Whether any value is a pair of a stripe and a tint."""
    if not isinstance(thing, tuple) or len(thing) != 2:
        return False
    stripe, tint = thing
    return is_stripe(stripe) and is_integer(tint) and tint != 0


def tint_at(heap, cell):
    """The tint of a heap at a cell."""
    check_heap(heap)
    check_cell(heap, cell)
    return tint_on(heap, cell)


def added(one, other):
    """The heap with the sums of the tints of each stripe of two heaps."""
    check_heaps(one, other)
    return gathered(one + other)


def taken(one, other):
    """The heap with the differences of the tints of each stripe of two heaps."""
    check_heaps(one, other)
    return gathered(list(one) + opposed(other))


def times(heap, number):
    """The heap with all tints times an integer."""
    check_heap(heap)
    if not is_integer(number):
        raise BadCount(number)
    return gathered([(stripe, tint * number) for stripe, tint in heap])


# The functions below are for values that are known to be right; only those called check_ take any values.


def has_breadth(heap, breadth):
    """Whether the heap is of the breadth; an empty one is of any."""
    return all([len(stripe[1]) == breadth for stripe, _ in heap])


def tint_on(heap, cell):
    """The tint of the heap at the cell."""
    return sum([tint for stripe, tint in heap if lies_on(stripe, cell)])


def moved_pairs(pairs, step):
    """The pairs of stripes and tints, each stripe moved by the step [3.1]."""
    return [(moved_stripe(stripe, step), tint) for stripe, tint in pairs]


def opposed(pairs):
    """The pairs of stripes and tints with the opposite tints."""
    return [(stripe, -tint) for stripe, tint in pairs]


def normal_pairs(pairs):
    """The heap of the pairs of stripes and tints, all stripes made normal, the tints of equal ones added up."""
    return gathered([(normal_form(stripe), tint) for stripe, tint in pairs])


def gathered(pairs):
    """The heap of pairs of stripes and tints, the tints of equal stripes added up."""
    tints = {}
    for stripe, tint in pairs:
        tints[stripe] = tints.get(stripe, 0) + tint
    return tuple(sorted([(stripe, tint) for stripe, tint in tints.items() if tint != 0]))


def check_heap(thing):
    """Raise BadHeap for any value that is not a heap."""
    if not is_heap(thing):
        raise BadHeap(thing)


def check_heaps(one, other):
    """Raise the errors that are due for any two values that are not two heaps of one breadth."""
    check_heap(one)
    check_heap(other)
    if one and not has_breadth(other, breadth_of_heap(one)):
        raise OtherBreadth(other)


def check_cell(heap, thing):
    """Raise BadCell for any value that is not a cell, or a step, of the breadth of the heap."""
    if not is_cell(thing) or not has_breadth(heap, len(thing)):
        raise BadCell(thing)


def breadth_of_heap(heap):
    """The breadth of a heap that is not empty."""
    return len(heap[0][0][1])
