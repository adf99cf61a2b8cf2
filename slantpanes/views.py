"""Part 3: looks that are moved, and looks that are seen in views."""

from slantpanes.errors import BadCell, BadCount, BadSteps
from slantpanes.heaps import check_cell, check_heap, gathered, moved_pairs, normal_pairs, tint_on
from slantpanes.stripes import dot, is_cell, stripe_told_by
from slantpanes.wholes import is_integer

MOST_STEPS = 3
MOST_TINTS = 400


def is_view(begin, steps):
    """Whether any two values are a view [3.2]."""
    return is_cell(begin) and are_steps(steps, len(begin))


def moved(heap, step):
    """The heap of the moved look [3.1]."""
    check_heap(heap)
    check_cell(heap, step)
    return gathered(moved_pairs(heap, step))


def seen(heap, begin, steps):
    """The heap of the look seen in a view [3.2]."""
    check_heap(heap)
    check_cell(heap, begin)
    check_steps(begin, steps)
    pairs = []
    for (m, c, r), tint in heap:
        stripe = stripe_told_by(m, [dot(c, step) for step in steps], r - dot(c, begin))
        if stripe is not None:
            pairs.append((stripe, tint))
    return normal_pairs(pairs)


def seen_of_seen(begin, steps, begin_two, steps_two):
    """The one view of what is seen in a view and then in a second one [3.3]."""
    check_view(begin, steps)
    if not is_cell(begin_two) or len(begin_two) != len(steps):
        raise BadCell(begin_two)
    check_steps(begin_two, steps_two)
    along = [added_up(steps, step) for step in steps_two]
    return (shifted(begin, added_up(steps, begin_two)), tuple(along))


def turned_back(begin, steps):
    """The view with which what is seen in a view that turns the floor is told back [3.3]."""
    check_view(begin, steps)
    if len(steps) != len(begin) or determinant(steps) not in (1, -1):
        raise BadSteps(steps)
    rows = undoing_rows(steps)
    back = added_up(rows, begin)
    return (tuple([-number for number in back]), rows)


def tints_along(heap, begin, step, many):
    """The tuple of the tints at so many cells, beginning with one and going on by a step."""
    check_heap(heap)
    check_cell(heap, begin)
    if not is_cell(step) or len(step) != len(begin):
        raise BadCell(step)
    if not is_integer(many) or not 0 <= many <= MOST_TINTS:
        raise BadCount(many)
    return tuple([tint_on(heap, shifted(begin, [at * number for number in step])) for at in range(many)])


# The functions below are for values that are known to be right; only those called are_ and check_ take any values.


def shifted(cell, step):
    """The cell plus the step."""
    return tuple([number + more for number, more in zip(cell, step)])


def added_up(steps, numbers):
    """The sum of the steps, each as many times as its number tells."""
    return tuple([dot(numbers, along) for along in zip(*steps)])


def determinant(rows):
    """The determinant of as many rows as each row has numbers."""
    if len(rows) == 1:
        return rows[0][0]
    return sum([rows[0][place] * cofactor(rows, 0, place) for place in range(len(rows))])


def cofactor(rows, at, place):
    """The determinant of the rows without this row and this place, with the sign that it has in that of all rows."""
    if len(rows) == 1:
        return 1
    left = [[*row[:place], *row[place + 1:]] for row in [*rows[:at], *rows[at + 1:]]]
    return determinant(left) if (at + place) % 2 == 0 else -determinant(left)


def undoing_rows(rows):
    """The rows of integers with which the rows, whose determinant is 1 or -1, make the unit steps."""
    sign = determinant(rows)
    places = range(len(rows))
    return tuple([tuple([sign * cofactor(rows, at, place) for at in places]) for place in places])


def are_steps(thing, breadth):
    """Whether any value is a tuple of one to three steps of this breadth."""
    if not isinstance(thing, tuple) or not 1 <= len(thing) <= MOST_STEPS:
        return False
    return all([is_cell(step) and len(step) == breadth for step in thing])


def check_steps(begin, thing):
    """Raise BadSteps for any value that is not a tuple of one to three steps of the breadth of the begin."""
    if not are_steps(thing, len(begin)):
        raise BadSteps(thing)


def check_view(begin, steps):
    """Raise the errors that are due for any two values that are not a view."""
    if not is_cell(begin):
        raise BadCell(begin)
    check_steps(begin, steps)
