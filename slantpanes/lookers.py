"""Part 8: unseen tints told back from looks."""

from slantpanes.errors import BadCell, BadLooks, BadStripes, BadTints
from slantpanes.heaps import is_heap, tint_on
from slantpanes.means import common_share
from slantpanes.parting import cell_not_zero
from slantpanes.solving import fitted, fractions_for, rank_of_rows, vanishing
from slantpanes.stripes import are_stripes, dot, is_cell, lies_on, normal_form
from slantpanes.wholes import common_multiple, is_fraction, is_integer

MOST_STRIPES = 12
MOST_LOOKS = 24


def judge_sure(stripes, looks, cell):
    """A right paper for told stripes, looks and a cell [8.2]."""
    check_looks(stripes, looks)
    check_cell(stripes, cell)
    rows, wanted = rows_of(stripes, looks), row_of(stripes, cell)
    fractions = fractions_for(rows, wanted)
    if fractions is not None:
        return ("sure", fractions)
    unseen = [tints for tints in vanishing(rows, len(stripes)) if dot(wanted, tints) != 0]
    return ("open", heap_with(stripes, unseen[0]))


def sure_holds(stripes, looks, cell, thing):
    """Whether any value is a right paper for told stripes, looks and a cell."""
    check_looks(stripes, looks)
    check_cell(stripes, cell)
    if not isinstance(thing, tuple) or len(thing) != 2:
        return False
    kind, told = thing
    if kind == "sure":
        return are_fractions(told, len(looks)) and do_tell(rows_of(stripes, looks), told, row_of(stripes, cell))
    if kind == "open":
        return is_told_heap(stripes, told) and not is_zero_at(told, [cell]) and is_zero_at(told, looks)
    return False


def judge_fit(stripes, looks, tints):
    """A right paper for told stripes, looks and looked tints [8.3]."""
    check_looks(stripes, looks)
    check_tints(looks, tints)
    numbers, fractions = fitted(rows_of(stripes, looks), tints, len(stripes))
    if numbers is None:
        return ("never", fractions)
    return ("fits", heap_with(stripes, numbers))


def fit_holds(stripes, looks, tints, thing):
    """Whether any value is a right paper for told stripes, looks and looked tints."""
    check_looks(stripes, looks)
    check_tints(looks, tints)
    if not isinstance(thing, tuple) or len(thing) != 2:
        return False
    kind, told = thing
    if kind == "fits":
        return is_told_heap(stripes, told) and all([tint_on(told, cell) == tint for cell, tint in zip(looks, tints)])
    if kind == "never":
        return are_fractions(told, len(looks)) and do_contradict(rows_of(stripes, looks), told, tints)
    return False


def are_enough(stripes, looks):
    """Whether looks are enough for told stripes [8.4]."""
    check_looks(stripes, looks)
    # What the looks tell is part of what all cells tell, so it is all if it is as much.
    return rank_of_rows(rows_of(stripes, looks)) == rank_of_rows(rows_of_shares(stripes))


def rank_of(stripes):
    """The rank of told stripes [8.4]."""
    check_stripes(stripes)
    return rank_of_rows(rows_of_shares(stripes))


def enough_looks(stripes):
    """As few cells as can be that are enough for told stripes [8.4]."""
    check_stripes(stripes)
    cells = []
    for _ in range(rank_of(stripes)):
        unseen = [heap_with(stripes, tints) for tints in vanishing(rows_of(stripes, cells), len(stripes))]
        # Some heap that has the tint 0 at all the cells does not have it everywhere, as they are not enough.
        found = [cell for cell in [cell_not_zero(heap) for heap in unseen] if cell is not None]
        cells.append(found[0])
    return tuple(cells)


# The functions below are for values that are known to be right; only those called are_, is_ and check_ take any values.


def row_of(stripes, cell):
    """For each stripe 1 if the cell lies on it, and 0 otherwise."""
    return [int(lies_on(stripe, cell)) for stripe in stripes]


def rows_of(stripes, cells):
    """The rows of row_of of all the cells."""
    return [row_of(stripes, cell) for cell in cells]


def rows_of_shares(stripes):
    """The means of the products of each two stripes, the row and the column of each one times its period.

    The rows have the rank of the looks: a sum of fractions of looks is 0 exactly if the mean of its square is.
    """
    normals = [normal_form(stripe) for stripe in stripes]
    return [[common_share(one, other) for other in normals] for one in normals]


def heap_with(stripes, tints):
    """The heap of the told stripes with these tints."""
    return tuple([(stripe, tint) for stripe, tint in zip(stripes, tints) if tint != 0])


def is_told_heap(stripes, thing):
    """Whether any value is a heap of told stripes."""
    return is_heap(thing) and all([stripe in stripes for stripe, _ in thing])


def is_zero_at(heap, cells):
    """Whether the heap has the tint 0 at all the cells."""
    return all([tint_on(heap, cell) == 0 for cell in cells])


def are_fractions(thing, many):
    """Whether any value is a tuple of so many fractions."""
    return isinstance(thing, tuple) and len(thing) == many and all([is_fraction(item) for item in thing])


def in_parts(fractions):
    """The tops of the fractions over one bottom, and this bottom."""
    whole = common_multiple([bottom for _, bottom in fractions])
    return [top * (whole // bottom) for top, bottom in fractions], whole


def sums_of_rows(rows, numbers, width):
    """The sum of the rows, of this width, each taken as many times as its number tells."""
    return [sum([number * row[at] for row, number in zip(rows, numbers)]) for at in range(width)]


def do_tell(rows, fractions, wanted):
    """Whether the rows with the fractions have the wanted sum."""
    tops, whole = in_parts(fractions)
    return sums_of_rows(rows, tops, len(wanted)) == [whole * number for number in wanted]


def do_contradict(rows, fractions, tints):
    """Whether the rows with the fractions have a sum of integers, and the looked tints have none."""
    tops, whole = in_parts(fractions)
    width = len(rows[0]) if rows else 0
    if not all([along % whole == 0 for along in sums_of_rows(rows, tops, width)]):
        return False
    return dot(tops, tints) % whole != 0


def are_told_stripes(thing):
    """Whether any value is told stripes [8.1]."""
    if not are_stripes(thing, MOST_STRIPES):
        return False
    if not all([before < behind for before, behind in zip(thing, thing[1:])]):
        return False
    return len({normal_form(stripe) for stripe in thing}) == len(thing)


def check_stripes(thing):
    """Raise BadStripes for any value that is not told stripes."""
    if not are_told_stripes(thing):
        raise BadStripes(thing)


def check_looks(stripes, looks):
    """Raise the errors that are due for any values that are not told stripes, and then looks."""
    check_stripes(stripes)
    if not isinstance(looks, tuple) or len(looks) > MOST_LOOKS:
        raise BadLooks(looks)
    if not all([is_cell(item) and len(item) == len(stripes[0][1]) for item in looks]):
        raise BadLooks(looks)


def check_cell(stripes, thing):
    """Raise BadCell for any value that is not a cell of the breadth of the stripes."""
    if not is_cell(thing) or len(thing) != len(stripes[0][1]):
        raise BadCell(thing)


def check_tints(looks, thing):
    """Raise BadTints for any value that is not a tuple of as many integers as looks."""
    if not isinstance(thing, tuple) or len(thing) != len(looks) or not all([is_integer(item) for item in thing]):
        raise BadTints(thing)
