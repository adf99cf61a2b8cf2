"""Part 5: panes."""

import itertools
import math
import unittest

import brute
from slantpanes import panes
from slantpanes.errors import BadDirection, BadDirections, BadHeap, BadRow, OtherBreadth
from slantpanes.looks import do_look_alike, great_levels, is_plain, levels_of, plain_heap
from slantpanes.panes import (
    cross_number, does_hold, exchanged, fewest_directions, is_direction, is_pane, is_row, judge_panes, laid, panes_hold,
)

ONE = (((2, (1, 1), 0), 1),)
ROW = (((2, (1,), 0), 3),)
NOTHING = (((1, (0, 0), 0), 1), ((2, (1, 0), 0), -1), ((2, (1, 0), 1), -1))
WALK = (((6, (1,), 2), 1),)
ROOM = (((2, (1, 0, 1), 0), 1), ((3, (0, 1, 1), 0), -1))
GREAT = [2 ** 132, 10 ** 39, 29 ** 27, 23 ** 14 * 29 ** 14, 2 ** 30 * 3 ** 20 * 5 ** 15 * 7 ** 12]
FAR = (10 ** 399 + 1, 10 ** 399)
# A row that taken apart would have more plain stripes than could ever be told, though each is short to write.
ENDLESS = (((210 ** 42, (1,), 210 ** 42 - 1), 1),)
NO_DIRECTIONS = brute.NOTHING_OF_ALL + [
    (), (1,), (0, 0), (0, 0, 0), (2, 4), (0, 2), (0, -1), (-1, 0), (-1, 2), (0, -1, 1), (0, 0, -1), (0, 0, 2), (6, 10, 14),
    (1, 0, 0, 0), [1, 0], (1, True), (True, 0), (0, True), (1, None), (1, "0"), ((1, 0),), (10 ** 60, 10 ** 60), 1, -1,
    (10 ** 99, 10 ** 99 + 10), (0, 10 ** 99),
]
NO_ROWS = brute.NO_HEAPS + [
    (((2, (1, 0), 0), 1),), (((1, (0, 0, 0), 0), 1),), (((2, (1,), 0), 1), ((3, (1, 0), 0), 1)), [], (((2, (0,), 0), 1),),
    (((2, (1,), 0), True),), (((2, (True,), 0), 1),), (((1, (0,), False), 1),), [((2, (1,), 0), 1)],
]


def told_direction(thing):
    """[5.1] by its words."""
    if not brute.told_cell(thing) or len(thing) == 1 or not any(thing):
        return False
    most = max(abs(number) for number in thing)
    if most < 100:
        if any(all(number % k == 0 for number in thing) for k in range(2, most + 1)):
            return False
    elif math.gcd(*thing) != 1:
        return False
    return [number for number in thing if number][0] > 0


def told_level(thing):
    """Whether any value is a pair of a period and numbers as a plain heap can have them."""
    if not isinstance(thing, tuple) or len(thing) != 2:
        return False
    return brute.told_stripe((*thing, 0)) and brute.told_normal((*thing, 0))


def holds(direction, level):
    """[5.2] by its words, for a small period."""
    m, c = level
    if len(direction) != len(c):
        return False
    return any(tuple(u * number % m for number in direction) == c for u in brute.units_of(m))


def seen(direction, row, cell):
    """The tint of the laid pane at the cell."""
    return brute.tint(row, (sum(a * b for a, b in zip(direction, cell)),))


def cross(one, other):
    return math.gcd(*[one[i] * other[j] - one[j] * other[i] for i, j in itertools.combinations(range(len(one)), 2)])


def small_directions(breadth, most):
    numbers = range(-most, most + 1)
    return [told for told in itertools.product(numbers, repeat=breadth) if told_direction(told)]


def children(stripe, p):
    """The stripes of [2.2] of a stripe of a row."""
    m, c, r = stripe
    return [(m * p, (c[0],), r + e * m) for e in range(p)]


def cancelling(stripe, primes):
    """A row that has the tint 0 everywhere: a stripe, less all that it is made of."""
    tints, lot = {stripe: 1}, [stripe]
    for p in primes:
        lot = [child for one in lot for child in children(one, p)]
    tints.update({one: -1 for one in lot})
    return brute.heap_of(tints)


class Examples(unittest.TestCase):
    def test_laid(self):
        self.assertEqual(laid((2, 3), (((6, (1,), 5), 4),)), (((6, (4, 3), 1), 4),))

    def test_exchanged(self):
        self.assertEqual(cross_number((1, 1), (1, -1)), 2)
        self.assertEqual(exchanged((1, 1), (1, -1), ROW), ROW)
        with self.assertRaises(BadRow):
            exchanged((1, 1), (1, -1), (((4, (1,), 0), 3),))
        self.assertEqual(cross_number((1, 0), (2, 5)), 5)
        self.assertEqual(exchanged((1, 0), (2, 5), (((5, (1,), 3), 1),)), (((5, (1,), 1), 1),))

    def test_judge_panes(self):
        self.assertEqual(judge_panes(ONE, ((0, 1), (1, 0))), ("bar", (2, (1, 1))))
        paper = ("panes", ((), (((2, (1,), 0), 1),)))
        self.assertIs(panes_hold(ONE, ((0, 1), (1, 3)), paper), True)
        self.assertEqual(judge_panes(ONE, ((0, 1), (1, 3)))[0], "panes")

    def test_friends(self):
        self.assertIs(does_hold((3, 2), (2, (1, 0))), True)
        self.assertIs(does_hold((3, 2), (3, (0, 1))), True)
        self.assertEqual(len(fewest_directions((((2, (1, 0), 0), 1), ((3, (0, 1), 0), 1)))), 1)

    def test_arguments_by_name(self):
        self.assertIs(is_direction(thing=(1, 0)) and is_row(thing=ROW) and is_pane(thing=((1, 0), ROW)), True)
        self.assertEqual(laid(row=ROW, direction=(1, 1)), (((2, (1, 1), 0), 3),))
        self.assertIs(does_hold(level=(2, (1, 1)), direction=(1, 3)), True)
        self.assertEqual(cross_number(other=(2, 5), one=(1, 0)), 5)
        self.assertEqual(exchanged(row=ROW, other=(1, -1), one=(1, 1)), ROW)
        self.assertEqual(judge_panes(directions=((0, 1), (1, 0)), heap=ONE), ("bar", (2, (1, 1))))
        self.assertIs(panes_hold(thing=("bar", (2, (1, 1))), directions=((0, 1),), heap=ONE), True)
        self.assertEqual(len(fewest_directions(heap=ONE)), 1)


class Values(unittest.TestCase):
    """is_direction, is_row, is_pane for any values."""

    def test_directions(self):
        for breadth in (2, 3):
            for thing in itertools.product(range(-4, 5), repeat=breadth):
                self.assertIs(is_direction(thing), told_direction(thing), thing)
        for right in ((0, 1), (1, -10 ** 60), FAR, (10 ** 399, 0, 10 ** 399 + 1), (6, 10, 15), (0, 0, 1), (0, 7, -6)):
            self.assertIs(is_direction(right), True, right)
        for wrong in NO_DIRECTIONS:
            self.assertIs(is_direction(wrong), False, wrong)
        for right in ((0, 1), (3, -2), (6, 10, 15)):
            for thing in brute.spoiled(right):
                self.assertIs(is_direction(thing), told_direction(thing), thing)

    def test_rows(self):
        long = tuple(((210, (1,), r), 1) for r in range(200))
        for right in ((), ROW, WALK, (((1, (0,), 0), -10 ** 39),), ENDLESS, long):
            self.assertIs(is_row(right), True, right)
        for wrong in NO_ROWS + [(2, (1,), 0), ((1, 0), ROW), "row"]:
            self.assertIs(is_row(wrong), False, wrong)
        for right in (ROW, (((2, (1,), 0), 1), ((3, (2,), 1), -1))):
            for thing in brute.spoiled(right):
                wide = brute.told_heap(thing) and all(len(stripe[1]) == 1 for stripe, _ in thing)
                self.assertIs(is_row(thing), wide, thing)

    def test_panes(self):
        for direction, row in itertools.product(((0, 1), (1, -2, 3), FAR), ((), ROW, ENDLESS)):
            self.assertIs(is_pane((direction, row)), True)
        for wrong in NO_DIRECTIONS:
            self.assertIs(is_pane((wrong, ROW)), False)
            self.assertIs(is_pane(wrong), False)
        for wrong in NO_ROWS:
            self.assertIs(is_pane(((0, 1), wrong)), False)
            self.assertIs(is_pane(wrong), False)
        for wrong in (((0, 1), ROW, ()), [(0, 1), ROW], ((0, 1),), (ROW, (0, 1))):
            self.assertIs(is_pane(wrong), False)


class Laid(unittest.TestCase):
    def test_all_cells_of_a_box(self):
        maker = brute.Maker(201)
        for _ in range(60):
            breadth = maker.rand.randrange(2, 4)
            direction = maker.rand.choice(small_directions(breadth, 4))
            row = maker.heap(1, [1, 2, 3, 4, 6, 8, 9, 12], maker.rand.randrange(6), 10 ** 39)
            heap = laid(direction, row)
            self.assertTrue(brute.told_heap(heap))
            self.assertTrue(all(brute.told_normal(stripe) and len(stripe[1]) == breadth for stripe, _ in heap))
            for cell in itertools.product(range(-3, 6), repeat=breadth):
                self.assertEqual(brute.tint(heap, cell), seen(direction, row, cell))
            self.assertTrue(all(holds(direction, level) for level in levels_of(heap)))
            self.assertEqual([s for s, _ in heap], sorted({s for s, _ in heap}))

    def test_tints_of_equal_stripes_are_added_up(self):
        self.assertEqual(laid((1, 2), (((5, (1,), 1), 2), ((5, (2,), 2), 3))), (((5, (1, 2), 1), 5),))
        self.assertEqual(laid((1, 2), (((5, (1,), 1), 2), ((5, (2,), 2), -2))), ())
        self.assertEqual(laid((1, 2), ()), ())
        self.assertEqual(laid((0, 0, 1), (((1, (0,), 0), 4),)), (((1, (0, 0, 0), 0), 4),))

    def test_numbers_at_the_ends_of_the_limits(self):
        for m in GREAT:
            for direction in (FAR, (FAR[1], FAR[0], -FAR[0]), (1, -10 ** 399)):
                heap = laid(direction, (((m, (m - 1,), 7), 10 ** 39),))
                self.assertEqual(len(heap), 1)
                self.assertEqual(heap[0][0][0], m)
                self.assertTrue(brute.told_normal(heap[0][0]))
                cell = (7 * (direction[0] - 1), 3, 5)[:len(direction)]
                for more in (0, 1, m // 2):
                    spot = (cell[0] + more, *cell[1:])
                    self.assertEqual(brute.tint(heap, spot), seen(direction, (((m, (m - 1,), 7), 10 ** 39),), spot))

    def test_errors_in_their_order(self):
        for wrong in NO_DIRECTIONS:
            for row in (ROW, "no row"):
                with self.assertRaises(BadDirection) as caught:
                    laid(wrong, row)
                self.assertIs(caught.exception.thing, wrong)
        for wrong in NO_ROWS:
            with self.assertRaises(BadRow) as caught:
                laid((1, 0), wrong)
            self.assertIs(caught.exception.thing, wrong)


class Holding(unittest.TestCase):
    def test_all_small_levels(self):
        for breadth, periods, most in ((2, (1, 2, 3, 4, 5, 6, 8), 3), (3, (1, 2, 3, 4), 2)):
            levels = sorted({stripe[:2] for m in periods for stripe in brute.stripes_of(m, breadth) if told_level(stripe[:2])})
            for direction in small_directions(breadth, most):
                for level in levels:
                    self.assertIs(does_hold(direction, level), holds(direction, level), (direction, level))

    def test_numbers_that_are_not_normal_are_no_level(self):
        for m in (2, 3, 4, 5, 6):
            for m, c, _ in brute.stripes_of(m, 2):
                if not told_level((m, c)):
                    for direction in small_directions(2, 3):
                        self.assertIs(does_hold(direction, (m, c)), False)

    def test_great_numbers(self):
        for m in GREAT:
            self.assertIs(does_hold((1, 7), (m, (1, 7))), True)
            self.assertIs(does_hold((1 + 3 * m, 7 - 5 * m) if m % 2 == 0 else (1 + 2 * m, 7), (m, (1, 7))), True)
            self.assertIs(does_hold((1, 8), (m, (1, 7))), False)
            self.assertIs(does_hold((1, 7, 1), (m, (1, 7))), False)

    def test_any_values(self):
        for wrong in [thing for thing in brute.NO_STRIPES if thing != (2, (1, 0))] + brute.NO_HEAPS + brute.NO_CELLS:
            for direction in ((0, 1), (1, 2, 3), FAR):
                self.assertIs(does_hold(direction, wrong), False, wrong)
        self.assertIs(does_hold((1, 0), (1, (0, 0))), True)
        wrongs = [(1, (0,)), (1, (0, 0, 0)), (True, (0, 0)), (1, (False, 0)), [1, (0, 0)], (1, [0, 0]), (1, (0, 0), 0),
                  (2, (True, 0)), (2, (3, 0)), (2, (1, 0), 0), (2, (-1, 0)), (31, (1, 0)), ENDLESS[0][0][:2], (2, (1,))]
        for wrong in wrongs:
            self.assertIs(does_hold((1, 0), wrong), False, wrong)
        for level in ((1, (0, 0)), (6, (1, 2)), (4, (2, 1))):
            for thing in brute.spoiled(level):
                self.assertIs(does_hold((1, 2), thing), told_level(thing) and holds((1, 2), thing), thing)

    def test_errors(self):
        for wrong in NO_DIRECTIONS:
            for level in ((2, (1, 0)), None):
                with self.assertRaises(BadDirection) as caught:
                    does_hold(wrong, level)
                self.assertIs(caught.exception.thing, wrong)


class Crossing(unittest.TestCase):
    def test_small_directions(self):
        for breadth, most in ((2, 4), (3, 1)):
            for one, other in itertools.permutations(small_directions(breadth, most), 2):
                number = cross_number(one, other)
                self.assertEqual(number, cross(one, other))
                self.assertGreater(number, 0)

    def test_both_hold_a_level_exactly_if_its_period_divides(self):
        for one, other in itertools.permutations(small_directions(2, 3), 2):
            for m in (2, 3, 4, 5, 6, 9, 12):
                levels = [normal for normal in level_of(one, m) if holds(other, normal)]
                self.assertEqual(levels != [], cross_number(one, other) % m == 0)

    def test_great_numbers(self):
        self.assertEqual(cross_number(FAR, (0, 1)), FAR[0])
        self.assertEqual(cross_number(FAR, (10 ** 399, 10 ** 399 + 1)), (10 ** 399 + 1) ** 2 - 10 ** 798)
        self.assertEqual(cross_number((1, 0, 10 ** 399), (1, 10 ** 380, 0)), 10 ** 380)

    def test_errors_in_their_order(self):
        for wrong in NO_DIRECTIONS:
            for call in (cross_number, lambda one, other: exchanged(one, other, "no row")):
                for one, other in ((wrong, (1, 0)), (wrong, None), (wrong, wrong), ((1, 0), wrong), ((1, 2, 3), wrong)):
                    with self.assertRaises(BadDirection) as caught:
                        call(one, other)
                    self.assertIs(caught.exception.thing, wrong)
        for call in (cross_number, lambda one, other: exchanged(one, other, None)):
            for one, other in (((1, 0), (1, 0, 0)), ((1, 2, 3), (1, 2))):
                with self.assertRaises(OtherBreadth) as caught:
                    call(one, other)
                self.assertIs(caught.exception.thing, other)
            for one in ((1, 0), (0, 1), (1, 2, 3), FAR):
                other = tuple(list(one))
                with self.assertRaises(BadDirection) as caught:
                    call(one, other)
                self.assertEqual(caught.exception.thing, other)


def level_of(direction, m):
    """The level of the period m that the direction holds, in a list."""
    if not brute.told_period(m):
        return []
    turned = [tuple(u * number % m for number in direction) for u in brute.units_of(m)]
    return [(m, c) for c in sorted(set(turned)) if told_level((m, c))]


class Exchanged(unittest.TestCase):
    def test_small_rows(self):
        maker = brute.Maker(202)
        done = 0
        for _ in range(400):
            breadth = maker.rand.randrange(2, 4)
            one, other = maker.rand.sample(small_directions(breadth, 5 if breadth == 2 else 2), 2)
            some = [m for m in (2, 3, 4, 5, 6, 8, 9, 10, 12) if cross(one, other) % m == 0]
            row = maker.heap(1, some * 9 + [1, 2, 3, 4, 6], maker.rand.randrange(1, 4))
            period = math.lcm(*[m for (m, _, _), _ in plain_heap(row)])
            if cross(one, other) % period != 0:
                self.assert_bad(one, other, row)
                continue
            done += period > 1
            partner = exchanged(one, other, row)
            self.assertTrue(is_row(partner) and is_plain(partner))
            self.assertIs(do_look_alike(laid(one, row), laid(other, partner)), True)
            for cell in itertools.product(range(4), repeat=breadth):
                self.assertEqual(seen(one, row, cell), seen(other, partner, cell))
            self.assertEqual(exchanged(other, one, partner), plain_heap(row))
        self.assertGreater(done, 20)

    def assert_bad(self, one, other, row):
        with self.assertRaises(BadRow) as caught:
            exchanged(one, other, row)
        self.assertIs(caught.exception.thing, row)

    def test_the_period_is_that_of_the_look(self):
        halves = brute.heap_of({child: 3 for child in children((2, (1,), 1), 3)})
        self.assertEqual(exchanged((1, 1), (1, -1), halves), plain_heap((((2, (1,), 1), 3),)))
        for stripe, primes in (((3, (1,), 0), (2, 3)), ((4, (1,), 3), (5, 7, 3)), ((4, (3,), 3), (5, 2))):
            zero = cancelling(stripe, primes)
            self.assertTrue(brute.told_heap(zero))
            self.assertEqual(exchanged((1, 0), (0, 1), zero), ())
            self.assertEqual(exchanged((1, 1), (1, -1), tuple(sorted(zero + ROW))), ROW)
        broken = dict(cancelling((2, (1,), 0), (2, 3)))
        broken[max(broken)] += 1
        self.assert_bad((1, 1), (1, -1), brute.heap_of(broken))

    def test_rows_of_any_size(self):
        self.assert_bad((1, 1), (1, -1), ENDLESS)
        self.assert_bad((1, 0), FAR, (((210 ** 40, (11,), 210 ** 40 - 11), 10 ** 99), *ENDLESS))
        zero = cancelling((210 ** 40, (1,), 210 ** 40 - 1), (7, 2, 5))
        self.assertEqual(exchanged((1, 0), (0, 1), zero), ())
        self.assert_bad((1, 1), (1, -1), zero[1:])
        self.assert_bad((1, 1), (1, -1), brute.heap_of({**dict(zero), ENDLESS[0][0]: 1}))

    def test_great_rows(self):
        for m in GREAT:
            for r in (0, 5, m // 3):
                row = (((m, (1,), r), -7),)
                if brute.plain_pieces(row[0][0]) > 400 or brute.plain_pieces((m, (1,), 3 * r % m)) > 400:
                    continue
                one, other = (3, 1), (9, 3 + m) if m % 3 else (9, 3 + 3 * m)
                if not told_direction(other):
                    one, other = (1, 1), (1, 1 + m)
                partner = exchanged(one, other, row)
                self.assertTrue(is_plain(partner))
                self.assertIs(do_look_alike(laid(one, row), laid(other, partner)), True)
                self.assertEqual(exchanged(other, one, partner), plain_heap(row))
        m = 10 ** 39
        one, other = FAR, (FAR[0] + 2 * m, FAR[1] + m)
        if told_direction(other) and cross(one, other) % m == 0:
            partner = exchanged(one, other, (((m, (3,), 1), 1),))
            self.assertIs(do_look_alike(laid(one, (((m, (3,), 1), 1),)), laid(other, partner)), True)

    def test_the_empty_row_and_the_period_one(self):
        for one, other in (((1, 0), (0, 1)), ((1, 0), (1, 7)), ((1, 2, 3), (3, 2, 1))):
            self.assertEqual(exchanged(one, other, ()), ())
            self.assertEqual(exchanged(one, other, (((1, (0,), 0), 5),)), (((1, (0,), 0), 5),))
        self.assertEqual(exchanged((1, 0), (0, 1), (((2, (1,), 0), 5), ((2, (1,), 1), 5))), (((1, (0,), 0), 5),))

    def test_errors(self):
        for wrong in NO_ROWS:
            self.assert_bad((1, 1), (1, -1), wrong)


class Judged(unittest.TestCase):
    """judge_panes and panes_hold."""

    def check(self, heap, directions):
        paper = judge_panes(heap, directions)
        self.assertEqual(judge_panes(heap, directions), paper)
        self.assertIs(panes_hold(heap, directions, paper), True)
        open_levels = [level for level in levels_of(heap) if not any(does_hold(told, level) for told in directions)]
        self.assertEqual(len(paper), 2)
        if open_levels:
            self.assertEqual(paper[0], "bar")
            self.assertIn(paper[1], open_levels)
        else:
            self.assertEqual(paper[0], "panes")
            self.assertEqual(len(paper[1]), len(directions))
            self.assertTrue(all(is_row(row) for row in paper[1]))
            tints = {}
            for direction, row in zip(directions, paper[1]):
                for stripe, tint in laid(direction, row):
                    tints[stripe] = tints.get(stripe, 0) + tint
            self.assertIs(do_look_alike(heap, brute.heap_of(tints)), True)
        return paper

    def test_random_heaps(self):
        maker = brute.Maker(203)
        kinds = []
        for _ in range(200):
            breadth = maker.rand.randrange(2, 4)
            some = small_directions(breadth, 2 if breadth == 2 else 1)
            directions = tuple(sorted(maker.rand.sample(some, maker.rand.randrange(1, 7))))
            heap = maker.heap(breadth, [1, 2, 2, 3, 4, 6], maker.rand.randrange(4))
            paper = self.check(heap, directions)
            kinds.append(paper[0])
            if paper[0] == "panes":
                for cell in itertools.product(range(-2, 3), repeat=breadth):
                    tints = [seen(told, row, cell) for told, row in zip(directions, paper[1])]
                    self.assertEqual(sum(tints), brute.tint(heap, cell))
        self.assertGreater(kinds.count("bar"), 30)
        self.assertGreater(kinds.count("panes"), 30)

    def test_laid_panes_are_laid_again(self):
        maker = brute.Maker(204)
        for _ in range(30):
            breadth = maker.rand.randrange(2, 4)
            directions = tuple(sorted(maker.rand.sample(small_directions(breadth, 3), 3)))
            tints = {}
            for direction in directions:
                for stripe, tint in laid(direction, maker.heap(1, [maker.period(10 ** 40 - 1)], 3, 10 ** 40 - 1)):
                    tints[stripe] = tints.get(stripe, 0) + tint
            heap = brute.heap_of(tints)
            if sum(brute.plain_pieces(stripe) for stripe, _ in heap) <= 400:
                self.assertEqual(self.check(heap, directions)[0], "panes")
                self.check(heap, directions[:2])

    def test_far_directions(self):
        heap = (((3 ** 80, (1, 2), 7), 1), ((10 ** 39, (1, 1), 5), 2))
        told = judge_panes(heap, ((1, 1), (1, 2)))
        self.assertEqual(told[0], "panes")
        far = (1 + 10 ** 39 * 7 ** 400, 1)
        self.assertIs(does_hold(far, (10 ** 39, (1, 1))), True)
        self.assertEqual(self.check(heap, ((1, 2), far))[0], "panes")
        self.assertEqual(self.check(heap, ((1, 2), FAR))[0], "bar")

    def test_looks_that_are_zero(self):
        for heap in ((), NOTHING):
            for directions in (((0, 1),), ((0, 1), (1, 0), (1, 1))):
                self.assertEqual(self.check(heap, directions)[0], "panes")
                self.assertIs(panes_hold(heap, directions, ("panes", ((),) * len(directions))), True)
                self.assertIs(panes_hold(heap, directions, ("bar", (1, (0, 0)))), False)
        self.assertEqual(self.check((), ((1, 2, 3), (3, 2, 1)))[0], "panes")

    def test_the_period_one_is_held_by_all(self):
        self.assertEqual(self.check((((1, (0, 0), 0), 3),), ((5, 7),)), ("panes", ((((1, (0,), 0), 3),),)))

    def test_rows_that_cancel_or_are_told_otherwise(self):
        two = ((1, -1), (1, 1))
        row = (((2, (1,), 0), 1),)
        for rows in ((row, ()), ((), row), ((((2, (1,), 0), 5),), (((2, (1,), 0), -4),))):
            self.assertIs(panes_hold(ONE, two, ("panes", rows)), True)
        for rows in ((row, row), ((), ()), (row,), (row, (), ()), [row, ()], ((((2, (1,), 1), 1),), ())):
            self.assertIs(panes_hold(ONE, two, ("panes", rows)), False)
        sixths = brute.heap_of({(6, (5,), 0): 1, (6, (1,), 2): 1, (6, (1,), 4): 1})
        self.assertIs(panes_hold(ONE, two, ("panes", (sixths, ()))), True)
        self.assertIs(panes_hold(ONE, two, ("panes", (sixths[1:], ()))), False)

    def test_rows_of_any_size(self):
        zero = cancelling((210 ** 40, (1,), 210 ** 40 - 1), (7, 2, 5))
        row = (((2, (1,), 0), 1),)
        for first, right in ((zero, True), (zero[1:], False), (ENDLESS, False), (zero + ENDLESS, False)):
            self.assertIs(panes_hold(ONE, ((0, 1), (1, 1)), ("panes", (first, row))), right)
            self.assertIs(panes_hold((), ((0, 1),), ("panes", (first,))), right)
        opposite = tuple((stripe, -tint) for stripe, tint in ENDLESS)
        self.assertIs(panes_hold((), ((0, 1), (1, 0)), ("panes", (ENDLESS, opposite))), False)
        far = (1, 210 ** 42)
        self.assertIs(panes_hold((), ((1, 0), far), ("panes", (ENDLESS, opposite))), True)
        long = tuple(((2 ** 12, (1,), r), 1) for r in range(2 ** 12))
        self.assertIs(panes_hold((((1, (0, 0), 0), 1),), ((0, 1),), ("panes", (long,))), True)
        self.assertIs(panes_hold((((1, (0, 0), 0), 1),), ((0, 1),), ("panes", (long[:-1],))), False)

    def test_bars(self):
        heap = (((4, (1, 2), 3), 1),)
        directions = ((0, 1), (1, 1))
        self.assertEqual(levels_of(heap), ((1, (0, 0)), (2, (1, 0)), (4, (1, 2))))
        for level, right in (((4, (1, 2)), True), ((2, (1, 0)), True), ((1, (0, 0)), False), ((2, (1, 1)), False),
                             ((4, (3, 2)), False), ((4, (1, 3)), False), ((4, (1, 2, 0)), False), ((8, (1, 2)), False)):
            self.assertIs(panes_hold(heap, directions, ("bar", level)), right, level)
        self.assertIs(panes_hold(heap, ((1, 2),), ("bar", (4, (1, 2)))), False)
        for level in ((2, (True, 0)), (2, (1, False)), [2, (1, 0)], (2, [1, 0]), (2, (1, 0), 0), 2, None):
            self.assertIs(panes_hold(heap, directions, ("bar", level)), False, level)

    def test_papers_wrong_at_one_place(self):
        cases = [(ONE, ((0, 1), (1, 0))), (ONE, ((0, 1), (1, 3))), ((((6, (1, 2), 1), 2),), ((0, 1), (1, 2), (2, 1)))]
        for heap, directions in cases + [(ROOM, ((0, 1, 1), (1, 0, 1))), ((), ((0, 1),))]:
            paper = judge_panes(heap, directions)
            for thing in brute.spoiled(paper):
                right = self.told_right(heap, directions, thing)
                self.assertIs(panes_hold(heap, directions, thing), right, (heap, directions, thing))

    def told_right(self, heap, directions, thing):
        """[5.3] by its words, for heaps that come again by 12."""
        if not isinstance(thing, tuple) or len(thing) != 2:
            return False
        breadth = len(directions[0])
        if thing[0] == "bar" and told_level(thing[1]):
            return thing[1] in levels_of(heap) and not any(holds(told, thing[1]) for told in directions)
        if thing[0] != "panes" or not isinstance(thing[1], tuple) or len(thing[1]) != len(directions):
            return False
        if not all(brute.told_heap(row) and all(len(s[1]) == 1 for s, _ in row) for row in thing[1]):
            return False
        if any(12 % stripe[0] for row in thing[1] for stripe, _ in row):
            return False
        return all(
            sum(seen(told, row, cell) for told, row in zip(directions, thing[1])) == brute.tint(heap, cell)
            for cell in itertools.product(range(12 if breadth == 2 else 6), repeat=breadth)
        )

    def test_any_values(self):
        for heap, directions in ((ONE, ((0, 1), (1, 0))), (ONE, ((1, 1),)), ((), ((1, 2, 3),)), (ROOM, ((0, 1, 1),))):
            for thing in brute.NO_HEAPS + [5, (), ("panes",), ("bar",), ("never", ()), "bar", ["bar", (2, (1, 1))]]:
                self.assertIs(panes_hold(heap, directions, thing), False)
            for told in brute.NO_HEAPS + [(), [()], [(), ()], ("", ""), (None,), (((), ()),)]:
                self.assertIs(panes_hold(heap, directions, ("panes", told)), False)
                self.assertIs(panes_hold(heap, directions, ("panes", (told,) * len(directions))), False) if told else None
            for told in brute.NO_STRIPES:
                self.assertIs(panes_hold(heap, directions, ("bar", told)), False)


class JudgedErrors(unittest.TestCase):
    CALLS = (judge_panes, lambda heap, directions: panes_hold(heap, directions, ("panes", ((),))))

    def test_heaps_come_first(self):
        for wrong in brute.NO_HEAPS + [WALK, (((1, (0,), 0), 1),), [], [WALK]]:
            for call in self.CALLS:
                for directions in (((0, 1),), None, ((1,),)):
                    with self.assertRaises(BadHeap) as caught:
                        call(wrong, directions)
                    self.assertIs(caught.exception.thing, wrong)
            with self.assertRaises(BadHeap) as caught:
                fewest_directions(wrong)
            self.assertIs(caught.exception.thing, wrong)

    def test_directions(self):
        seven = tuple(sorted(small_directions(2, 2)[:7]))
        self.assertEqual(len(seven), 7)
        wrongs = brute.NOTHING_OF_ALL + [
            (), (1, 0), ((1, 0), (0, 1)), ((0, 1), (0, 1)), ((0, 1), (1, 0), (1, 0)), [(0, 1)], ([0, 1],), seven,
            ((0, 1), (0, 0, 1)), ((0, 0, 1), (0, 1)), ((0, 1), (2, 4)), ((-1, 0),), ((0, True),), ((0, 1), None),
        ]
        for heap in (ONE, NOTHING, ()):
            for wrong in wrongs + [(wrong,) for wrong in NO_DIRECTIONS]:
                for call in self.CALLS:
                    with self.assertRaises(BadDirections) as caught:
                        call(heap, wrong)
                    self.assertIs(caught.exception.thing, wrong)
        self.assertEqual(judge_panes(ONE, seven[:6])[0], "panes")

    def test_one_wrong_item_beside_directions(self):
        for item in NO_DIRECTIONS + [(0, 1, 0), (1, 0, 0)]:
            for wrong in (
                (item, (1, 0)), ((0, 1), item), (item, (0, 1), (1, 0)), ((0, 1), item, (1, 0)), ((0, 1), (1, 0), item),
                (item, item, (1, 0)), (item, (0, 0, 1), (1, 0)),
            ):
                for heap, call in itertools.product((ONE, NOTHING, ()), self.CALLS):
                    with self.assertRaises(BadDirections) as caught:
                        call(heap, wrong)
                    self.assertIs(caught.exception.thing, wrong)

    def test_directions_of_another_breadth(self):
        for call in self.CALLS:
            for heap, wrong in ((ONE, ((0, 0, 1),)), (ROOM, ((0, 1),)), (NOTHING, ((1, 2, 3), (3, 2, 1)))):
                with self.assertRaises(BadDirections) as caught:
                    call(heap, wrong)
                self.assertIs(caught.exception.thing, wrong)


class Fewest(unittest.TestCase):
    def check(self, heap):
        told = fewest_directions(heap)
        self.assertEqual(fewest_directions(heap), told)
        self.assertTrue(isinstance(told, tuple) and all(told_direction(direction) for direction in told))
        self.assertEqual(list(told), sorted(set(told)))
        self.assertTrue(all(any(does_hold(direction, level) for direction in told) for level in levels_of(heap)))
        return told

    def fewest(self, heap, breadth):
        """As few as tell by trying all, for levels whose periods have a small common multiple."""
        levels = great_levels(heap)
        whole = math.lcm(1, *[m for m, _ in levels])
        lots = set()
        for numbers in itertools.product(range(whole), repeat=breadth):
            if all(any(number % p for number in numbers) for p, _ in brute.powers_of(whole)):
                lots.add(frozenset(level for level in levels if level in self.held(numbers, level[0])))
        for many in range(len(levels) + 1):
            for some in itertools.combinations(sorted(lots, key=sorted), many):
                if set().union(*some) == set(levels):
                    return many

    def held(self, numbers, m):
        return {(m, tuple(u * number % m for number in numbers)) for u in brute.units_of(m)}

    def test_as_few_as_can_be(self):
        maker = brute.Maker(205)
        counts = []
        while len(counts) < 90:
            breadth = maker.rand.choice((2, 2, 3))
            periods = [1, 2, 3, 4, 6, 12] if breadth == 2 else [2, 3, 4]
            heap = maker.heap(breadth, periods, maker.rand.randrange(1, 7))
            if len(great_levels(heap)) <= 6:
                told = self.check(heap)
                self.assertEqual(len(told), self.fewest(heap, breadth), heap)
                counts.append(len(told))
        self.assertGreater(len(set(counts)), 3)

    def test_eight_great_levels_in_lots(self):
        levels = [(2, (0, 1)), (2, (1, 0)), (2, (1, 1)), (3, (0, 1)), (3, (1, 0)), (3, (1, 1)), (5, (1, 1)), (7, (1, 3))]
        heap = tuple(((m, c, 0), 1) for m, c in levels)
        self.assertEqual(len(great_levels(heap)), 8)
        self.assertEqual(len(self.check(heap)), 3)
        heap = tuple(((7, c, 0), 1) for c in [(0, 1)] + [(1, k) for k in range(7)])
        self.assertEqual(len(self.check(heap)), 8)

    def test_lots_that_are_not_filled_one_after_the_other(self):
        # Only neighbours in the order 2, 6, 15, 5 are no friends: 2 and 5, put together at once, cost a third lot.
        row = [(2, (1, 0)), (5, (0, 1)), (6, (4, 3)), (15, (6, 10))]
        self.assertEqual(len(self.check(tuple(((m, c, 0), 1) for m, c in row))), 2)
        # The same with a level that is no friend of any of them.
        row = [(7, (0, 1)), (14, (1, 0)), (35, (15, 21)), (42, (22, 21)), (105, (36, 70))]
        self.assertEqual(len(self.check(tuple(((m, c, 0), 1) for m, c in row))), 3)

    def test_levels_within_others_need_no_lot(self):
        heap = (((4, (1, 2), 3), 1),)
        self.assertEqual(len(levels_of(heap)), 3)
        self.assertEqual(len(self.check(heap)), 1)
        self.assertEqual(len(self.check((((2, (1, 0), 0), 1), ((4, (1, 2), 0), 1)))), 1)
        self.assertEqual(len(self.check((((2, (1, 1), 0), 1), ((4, (1, 2), 0), 1)))), 2)

    def test_looks_without_levels_and_with_the_period_one(self):
        self.assertEqual(fewest_directions(()), ())
        self.assertEqual(fewest_directions(NOTHING), ())
        for breadth in (2, 3):
            self.assertEqual(len(self.check((((1, (0,) * breadth, 0), 5),))), 1)

    def test_great_periods(self):
        maker = brute.Maker(206)
        for breadth in (2, 3):
            for primes in itertools.combinations(brute.PRIMES, 8):
                if maker.rand.randrange(6):
                    continue
                stripes = [maker.stripe(breadth, [greatest_power(p)]) for p in primes]
                heap = brute.heap_of({(m, c, 0): 1 for m, c, _ in stripes})
                told = self.check(heap)
                self.assertEqual(len(told), 1)
                self.assertLess(max(abs(number) for number in told[0]), 10 ** 400)
                self.assertEqual(judge_panes(heap, told)[0], "panes")

    def test_unlike_powers_of_a_prime(self):
        heap = (((2 ** 40, (1, 2), 0), 1), ((3 ** 30 * 2 ** 60, (1, 2 + 2 ** 40), 0), 1))
        self.assertEqual(len(self.check(brute.heap_of(dict(heap)))), 1)
        heap = (((2 ** 40, (1, 2), 0), 1), ((3 ** 30 * 2 ** 60, (1, 2 + 2 ** 39), 0), 1))
        self.assertEqual(len(self.check(brute.heap_of(dict(heap)))), 2)


def greatest_power(p):
    q = p
    while q * p < 10 ** 40:
        q *= p
    return q


class Interface(unittest.TestCase):
    def test_defined_in_its_file(self):
        for name in ("is_direction", "is_row", "is_pane", "laid", "does_hold", "cross_number", "exchanged", "judge_panes",
                     "panes_hold", "fewest_directions"):
            self.assertEqual(getattr(panes, name).__module__, "slantpanes.panes")


if __name__ == "__main__":
    unittest.main()
