"""The promises of a yard [11.2]: which there are, whether they are kept, and the faults of those that are not.

The heaps are told as a dict of names and heaps.
"""

from slantpanes.bars import heaviest_above
from slantpanes.heaps import breadth_of_heap
from slantpanes.looks import alike_holds, judge_alike
from slantpanes.means import mean
from slantpanes.meetings import is_bound, is_cell_above
from slantpanes.panes import are_directions, judge_panes, panes_hold
from slantpanes.returns import judge_return, return_holds
from slantpanes.stripes import is_cell, is_stripe
from slantpanes.wholes import is_fraction, lowest

MOST_LETTERS = 8
ITEMS = 3


def is_name(thing):
    """Whether any value is a name [11.1]."""
    if not isinstance(thing, str) or not 1 <= len(thing) <= MOST_LETTERS:
        return False
    return all(["a" <= letter <= "z" for letter in thing])


def is_worded(thing):
    """Whether any value is a promise of some yard, whatever heaps it has."""
    if not isinstance(thing, tuple) or len(thing) != ITEMS or not is_name(thing[1]):
        return False
    kind, _, told = thing
    if kind == "alike":
        return is_name(told)
    if kind == "return":
        return is_cell(told)
    if kind == "held":
        return are_directions(told)
    if kind == "never above":
        return is_bound(told)
    return kind == "mean" and is_fraction(told)


def is_promise(heaps, thing):
    """Whether any value is a promise whose names stand for heaps, by the breadths that these have."""
    return is_worded(thing) and all([name in heaps for name in names_in(thing)]) and is_in_breadth(heaps, thing)


def is_right_fault(heaps, promise, thing):
    """Whether any value is a right fault of a promise that is not kept."""
    kind, name, told = promise
    heap = heaps[name]
    if thing == ("breadths",):
        return kind == "alike" and not have_one_breadth(heap, heaps[told])
    if not isinstance(thing, tuple) or len(thing) != 2:
        return False
    if kind == "alike":
        other = heaps[told]
        return thing[0] == "apart" and have_one_breadth(heap, other) and alike_holds(heap, other, thing)
    if kind == "return":
        return thing[0] == "apart" and return_holds(heap, told, thing)
    if kind == "held":
        return thing[0] == "bar" and panes_hold(heap, told, thing)
    if kind == "never above":
        return is_tint_fault(heap, told, thing)
    return thing[0] == "mean" and is_fraction(thing[1]) and thing == fault_of_mean(heap, told)


# The functions below are for values that are known to be right.


def names_in(promise):
    """The names that the promise has."""
    kind, name, told = promise
    return (name, told) if kind == "alike" else (name,)


def is_in_breadth(heaps, promise):
    """Whether what the promise asks for is of the breadth of its heap."""
    kind, name, told = promise
    if kind == "return":
        return len(told) == breadth_of_heap(heaps[name])
    return kind != "held" or len(told[0]) == breadth_of_heap(heaps[name])


def have_one_breadth(one, other):
    """Whether two heaps that are not empty have one breadth."""
    return breadth_of_heap(one) == breadth_of_heap(other)


def fault_of(heaps, promise):
    """A right fault of the promise, None if it is kept."""
    kind, name, told = promise
    heap = heaps[name]
    if kind == "alike":
        return fault_of_likeness(heap, heaps[told])
    if kind == "return":
        return unless(judge_return(heap, told), "return")
    if kind == "held":
        return unless(judge_panes(heap, told), "panes")
    if kind == "never above":
        return fault_of_tints(heap, told)
    return fault_of_mean(heap, told)


def unless(paper, kind):
    """The paper, None if it is of this kind."""
    return None if paper[0] == kind else paper


def fault_of_likeness(one, other):
    """A right fault of the promise that two heaps look alike, None if it is kept."""
    if not have_one_breadth(one, other):
        return ("breadths",)
    return unless(judge_alike(one, other), "alike")


def fault_of_mean(heap, fraction):
    """A right fault of the promise that the mean of the heap is the fraction, None if it is kept."""
    found = mean(heap)
    return None if found == lowest(*fraction) else ("mean", found)


def fault_of_tints(heap, bound):
    """A right fault of the promise that all tints of the heap are above 0, and no cell is above the bound, or None."""
    below = stripes_below_zero(heap)
    if below:
        return ("below zero", below[0])
    _, cell, _ = heaviest_above(heap, bound)
    return None if cell is None else ("above", cell)


def is_tint_fault(heap, bound, thing):
    """Whether a pair of any values is a right fault of the promise of fault_of_tints."""
    kind, told = thing
    below = stripes_below_zero(heap)
    if below:
        return kind == "below zero" and is_stripe(told) and told == below[0]
    return kind == "above" and is_cell_above(heap, bound, told)


def stripes_below_zero(heap):
    """The stripes of the heap whose tints are below 0, in its order."""
    return [stripe for stripe, tint in heap if tint < 0]


def first_unkept(heaps, promises):
    """The number of the first of the promises that is not kept, and a fault, None if it is no promise any more.

    If all are kept, None alone.
    """
    for number, promise in enumerate(promises):
        if not is_in_breadth(heaps, promise):
            return number, None
        fault = fault_of(heaps, promise)
        if fault is not None:
            return number, fault
    return None


def renamed(promise, name, other):
    """The promise with the other name wherever it has the name."""
    kind, first, told = promise
    if kind == "alike":
        return (kind, renamed_name(first, name, other), renamed_name(told, name, other))
    return (kind, renamed_name(first, name, other), told)


def renamed_name(word, name, other):
    """The other name if the word is the name, and the word itself if it is not."""
    return other if word == name else word
