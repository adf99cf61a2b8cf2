"""Corner rows of steps that suit stripes [4.1], and the common cells that they tell [6.2]."""

from math import gcd

from slantpanes.stripes import dot
from slantpanes.wholes import divisor_with_factors


def unit_steps(breadth):
    """The corner rows of all steps."""
    return [tuple([int(place == at) for place in range(breadth)]) for at in range(breadth)]


def rows_within(rows, level):
    """The corner rows of those sums of the corner rows that suit the level."""
    found = []
    for at in reversed(range(len(rows))):
        found = [reduced(suited(rows[at], rows[at + 1:], level), found), *found]
    return found


def suited(row, behind, level):
    """The least multiple of the row, with some of the rows behind added, that suits the level."""
    m, c = level
    divisor, factors = divisor_with_factors([dot(c, other) for other in behind] + [m])
    along = dot(c, row)
    times = divisor // gcd(divisor, along)
    # The rows behind make all multiples of the divisor by m, and so what undoes this one.
    undone = times * along // divisor
    step = [times * number for number in row]
    for other, factor in zip(behind, factors):
        step = [number - undone * factor * more for number, more in zip(step, other)]
    return step


def reduced(step, rows):
    """The step less multiples of the corner rows, which are the last ones, its numbers in their places being low."""
    for place, row in enumerate(rows, start=len(step) - len(rows)):
        times = step[place] // row[place]
        step = [number - times * more for number, more in zip(step, row)]
    return tuple(step)


def all_cells(breadth):
    """The least one of all cells, and the corner rows of the steps between them."""
    return (tuple([0] * breadth), unit_steps(breadth))


def cells_narrowed(cells, stripe):
    """Those of the cells, told by a cell and by corner rows, that lie on the stripe, told likewise; or None."""
    cell, rows = cells
    m, c, r = stripe
    divisor, factors = divisor_with_factors([dot(c, row) for row in rows] + [m])
    missing = r - dot(c, cell)
    if missing % divisor != 0:
        return None
    for row, factor in zip(rows, factors):
        times = missing // divisor * factor
        cell = [number + times * more for number, more in zip(cell, row)]
    narrower = rows_within(rows, (m, c))
    return (reduced(cell, narrower), narrower)


def common_cells_of(stripes):
    """The least cell and the corner rows of the cells that lie on all of the stripes, None if they never meet."""
    cells = all_cells(len(stripes[0][1]))
    for stripe in stripes:
        if cells is not None:
            cells = cells_narrowed(cells, stripe)
    return cells
