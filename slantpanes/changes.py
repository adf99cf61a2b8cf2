"""The changes of a yard [11.3]: which there are, and what they make of its heaps and promises.

The heaps are told as a dict of names and heaps, the promises as a tuple. A change makes new ones of them.
"""

from slantpanes.errors import (
    BadCount, BadName, BadPromise, BadStripe, InUse, NameTaken, NoName, NoPromise, NothingLeft, OtherBreadth, TooMany,
)
from slantpanes.heaps import added, breadth_of_heap, has_breadth, is_heap, times
from slantpanes.plain import plain_of
from slantpanes.promises import is_name, is_promise, is_worded, names_in, renamed
from slantpanes.stripes import is_stripe
from slantpanes.views import moved
from slantpanes.wholes import is_integer

MOST_PAIRS = 24


def put(heaps, promises, name, heap):
    """The name stands for the heap."""
    if not is_name(name):
        raise BadName(name)
    return {**heaps, name: heap}, promises


def drop(heaps, promises, name):
    """The name stands for nothing any more."""
    check_name(heaps, name)
    if any([name in names_in(promise) for promise in promises]):
        raise InUse(name)
    return {other: heaps[other] for other in heaps if other != name}, promises


def rename(heaps, promises, name, other):
    """The other name stands for what the name stood for."""
    check_name(heaps, name)
    if not is_name(other):
        raise BadName(other)
    if other in heaps:
        raise NameTaken(other)
    kept = {word: heaps[word] for word in heaps if word != name}
    return {**kept, other: heaps[name]}, tuple([renamed(promise, name, other) for promise in promises])


def change_stripe(heaps, promises, name, stripe, tint):
    """The tint is added to that of the stripe."""
    check_name(heaps, name)
    heap = heaps[name]
    if not is_stripe(stripe) or not has_breadth(heap, len(stripe[1])):
        raise BadStripe(stripe)
    check_number(tint)
    return {**heaps, name: fitting_heap(added(heap, ((stripe, tint),)))}, promises


def move(heaps, promises, name, step):
    """The heap is moved by the step."""
    check_name(heaps, name)
    # This raises BadCell, as the change is to.
    return {**heaps, name: moved(heaps[name], step)}, promises


def change_times(heaps, promises, name, number):
    """All tints of the heap are taken times the number."""
    check_name(heaps, name)
    check_number(number)
    return {**heaps, name: times(heaps[name], number)}, promises


def add(heaps, promises, name, other):
    """The heap becomes the sum of both."""
    check_name(heaps, name)
    check_name(heaps, other)
    if not has_breadth(heaps[name], breadth_of_heap(heaps[other])):
        raise OtherBreadth(other)
    return {**heaps, name: fitting_heap(added(heaps[name], heaps[other]))}, promises


def make_plain(heaps, promises, name):
    """The heap becomes the plain heap of its look."""
    check_name(heaps, name)
    return {**heaps, name: fitting_heap(plain_of(heaps[name]))}, promises


def give(heaps, promises, promise):
    """The promise is given."""
    if not is_promise(heaps, promise) or promise in promises:
        raise BadPromise(promise)
    return heaps, (*promises, promise)


def release(heaps, promises, promise):
    """The promise is not given any more."""
    # A value that is equal to a promise may still be none: it may have a bool in it.
    if not is_worded(promise) or promise not in promises:
        raise NoPromise(promise)
    return heaps, tuple([other for other in promises if other != promise])


ACTIONS = {
    "put": put, "drop": drop, "rename": rename, "stripe": change_stripe, "move": move, "times": change_times,
    "add": add, "plain": make_plain, "promise": give, "release": release,
}
ITEMS = {
    "put": 3, "drop": 2, "rename": 3, "stripe": 4, "move": 3, "times": 3, "add": 3, "plain": 2, "promise": 2,
    "release": 2,
}


def is_change(thing):
    """Whether any value is a change, whether or not it can be made."""
    if not isinstance(thing, tuple) or len(thing) == 0 or not isinstance(thing[0], str):
        return False
    if ITEMS.get(thing[0], 0) != len(thing):
        return False
    return thing[0] != "put" or is_heap_to_keep(thing[2])


def made(heaps, promises, change):
    """The heaps and the promises after the change; raises its errors."""
    kind, *told = change
    action = ACTIONS[kind]
    return action(heaps, promises, *told)


def is_heap_to_keep(thing):
    """Whether any value is a heap of 1 to 24 pairs."""
    return is_heap(thing) and 1 <= len(thing) <= MOST_PAIRS


def fitting_heap(heap):
    """The heap itself, if a name can stand for it."""
    if len(heap) > MOST_PAIRS:
        raise TooMany(MOST_PAIRS)
    if len(heap) == 0:
        raise NothingLeft()
    return heap


def check_name(heaps, thing):
    """Raise NoName for any value that is not a name that stands for a heap."""
    if not is_name(thing) or thing not in heaps:
        raise NoName(thing)


def check_number(thing):
    """Raise BadCount for any value that is not an integer other than 0."""
    if not is_integer(thing) or thing == 0:
        raise BadCount(thing)
