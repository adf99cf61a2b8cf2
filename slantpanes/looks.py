"""Part 2: looks, which are told by their plain heaps."""

from slantpanes.errors import TooMany
from slantpanes.heaps import check_heap, check_heaps, has_breadth, is_heap, opposed, tint_on
from slantpanes.parting import cell_not_zero
from slantpanes.plain import great_levels_in, is_plain_stripe, levels_in, plain_of
from slantpanes.stripes import is_cell


def is_plain(heap):
    """Whether a heap is plain [2.3]."""
    check_heap(heap)
    return all([is_plain_stripe(stripe) for stripe, _ in heap])


def plain_heap(heap, *, most=4096):
    """The plain heap of the look of a heap [2.4]."""
    check_heap(heap)
    plain = plain_of(heap)
    if len(plain) > most:
        raise TooMany(most)
    return plain


def judge_alike(one, other):
    """A right paper for two heaps [2.5]."""
    check_heaps(one, other)
    cell = cell_not_zero(list(one) + opposed(other))
    if cell is None:
        return ("alike", plain_of(one))
    return ("apart", cell)


def alike_holds(one, other, thing):
    """Whether any value is a right paper for two heaps."""
    check_heaps(one, other)
    if not isinstance(thing, tuple) or len(thing) != 2:
        return False
    kind, told = thing
    if kind == "alike":
        return is_heap(told) and told == plain_of(one) and told == plain_of(other)
    if kind == "apart":
        return is_cell(told) and do_part_at(one, other, told)
    return False


def do_part_at(one, other, cell):
    """Whether the tints of the heaps at the cell, which is of their breadth, are unlike."""
    if not has_breadth(one + other, len(cell)):
        return False
    return tint_on(one, cell) != tint_on(other, cell)


def do_look_alike(one, other):
    """Whether two heaps look alike."""
    check_heaps(one, other)
    return plain_of(one) == plain_of(other)


def levels_of(heap):
    """The ascending tuple of the levels of the look of a heap [2.6]."""
    check_heap(heap)
    return levels_in(plain_of(heap))


def great_levels(heap):
    """The ascending tuple of the great levels of the look of a heap [2.6]."""
    check_heap(heap)
    return great_levels_in(plain_of(heap))
