"""Rows of integers: sums of them with fractions, and integers that give wanted products with them."""

from math import gcd, lcm

from slantpanes.stripes import dot
from slantpanes.wholes import common_divisor, lowest


def placed_rows(rows):
    """As few rows as have, with fractions, the same sums, each told with a place.

    There the row has a number above 0, with only 0 before it, and all other rows have 0.
    """
    found = []
    for row in rows:
        left = row
        for place, other in found:
            left = row_less(left, other, place)
        places = [place for place, number in enumerate(left) if number != 0]
        if places:
            first = places[0]
            ahead = without_common_divisor(left, first)
            found = [(place, row_less(other, ahead, first)) for place, other in found] + [(first, ahead)]
    return found


def row_less(row, other, place):
    """A multiple of the row less one of the other one, with 0 in the place, where the other one is above 0."""
    if row[place] == 0:
        return row
    times, times_other = other[place], row[place]
    # The factors are both made as small as can be; that of the row stays above 0.
    divisor = gcd(times, times_other)
    less = [times // divisor * number - times_other // divisor * more for number, more in zip(row, other)]
    common = common_divisor(0, less)
    return [number // max(1, common) for number in less]


def without_common_divisor(row, place):
    """The row divided by what divides all its numbers, the one in the place, which is not 0, being above 0."""
    divisor = common_divisor(0, row)
    if row[place] < 0:
        divisor = -divisor
    return [number // divisor for number in row]


def rank_of_rows(rows):
    """The greatest number of rows none of which is a sum of fractions of the others."""
    return len(placed_rows(rows))


def fractions_for(rows, wanted):
    """Fractions, one for each row, with which the rows have the wanted sum; None if there are none."""
    many = len(rows)
    columns = [[row[at] for row in rows] + [number] for at, number in enumerate(wanted)]
    fractions = [(0, 1)] * many
    for place, column in placed_rows(columns):
        if place == many:
            return None
        fractions[place] = lowest(column[many], column[place])
    return tuple(fractions)


def vanishing(rows, width):
    """Rows of integers of this width whose products with all the rows are 0.

    All other such rows are sums of fractions of them.
    """
    placed = placed_rows(rows)
    found = []
    for free in [place for place in range(width) if place not in [taken for taken, _ in placed]]:
        whole = 1
        for place, row in placed:
            whole = lcm(whole, row[place])
        numbers = [0] * width
        numbers[free] = whole
        for place, row in placed:
            numbers[place] = -row[free] * (whole // row[place])
        found.append(without_common_divisor(numbers, free))
    return found


def fitted(rows, wanted, width):
    """Integers of this width whose products with the rows are the wanted ones, and None; or None, and fractions.

    With these, one for each row, the rows have a sum of integers, and the wanted products have none. To find them,
    the integers are changed row by row, by multiples of free integers whose products with all rows before are 0. Of
    the free ones only one keeps a product with the row; it leaves them, and is put down as the turn of the row.
    """
    numbers = [0] * width
    free = [[int(other == place) for other in range(width)] for place in range(width)]
    turns = []
    for at, row in enumerate(rows):
        missing = wanted[at] - dot(row, numbers)
        turn, free = turned_apart(row, free)
        step = dot(row, turn)
        if missing != 0 and (step == 0 or missing % step != 0):
            bottom = step if step != 0 else 2 * abs(missing)
            return None, fractions_against(rows, turns, at, bottom)
        if step != 0:
            numbers = [number + missing // step * more for number, more in zip(numbers, turn)]
            turns.append((at, turn))
    return numbers, None


def turned_apart(row, free):
    """One row of integers that has a product from 0 on with the row, and others for which it is 0.

    Together they have the same sums as the free ones; if all products are 0, the first one is a row of zeros.
    """
    still = [numbers for numbers in free if dot(row, numbers) == 0]
    turning = [numbers for numbers in free if dot(row, numbers) != 0]
    while len(turning) > 1:
        _, least = min([(abs(dot(row, numbers)), numbers) for numbers in turning])
        others = []
        for numbers in turning:
            if numbers != least:
                times = dot(row, numbers) // dot(row, least)
                others.append([number - times * more for number, more in zip(numbers, least)])
        still.extend([numbers for numbers in others if dot(row, numbers) == 0])
        turning = [least] + [numbers for numbers in others if dot(row, numbers) != 0]
    turn = turning[0] if turning else [0] * len(row)
    return [-number for number in turn] if dot(row, turn) < 0 else turn, still


def fractions_against(rows, turns, at, bottom):
    """The fractions of fitted: 1 / bottom for the row of this number, and for the others what undoes it.

    By them the sum of the rows has the product 0 with each turn, and so integers as products with all integers.
    """
    tops = {at: 1}
    for number, turn in reversed(turns):
        step = dot(rows[number], turn)
        undone = sum([top * dot(rows[other], turn) for other, top in tops.items()])
        tops = {other: top * step for other, top in tops.items()}
        tops[number] = -undone
        bottom *= step
    return tuple([lowest(tops.get(number, 0), bottom) for number in range(len(rows))])
