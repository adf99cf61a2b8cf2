"""Part 7: means."""

import itertools
import math
import unittest
from fractions import Fraction

import brute
from slantpanes import means
from slantpanes.errors import BadCell, BadHeap, BadStripe, OtherBreadth
from slantpanes.looks import do_look_alike, plain_heap
from slantpanes.means import distance, likeness, mean, share_of_both
from slantpanes.returns import is_return

HEAP = (((3, (1, 1), 0), 2), ((4, (1, 0), 1), 5))
WALK = (((6, (1,), 2), 1),)
ROOM = (((2, (1, 0, 1), 0), 1), ((3, (0, 1, 1), 0), -1))
NOTHING = (((1, (0, 0), 0), 1), ((2, (1, 0), 0), -1), ((2, (1, 0), 1), -1))
GREAT = [2 ** 132, 10 ** 39, 29 ** 27, 23 ** 14 * 29 ** 14, 2 ** 30 * 3 ** 20 * 5 ** 15 * 7 ** 12]


def told(fraction):
    return (fraction.numerator, fraction.denominator)


def mean_in_box(values):
    values = list(values)
    return told(Fraction(sum(values), len(values)))


def told_share(one, other):
    """The share by [7.1], word by word, for small periods."""
    m, c, r = one
    n, b, s = other
    found = []
    for g in range(1, math.gcd(m, n) + 1):
        if m % g == 0 and n % g == 0:
            units = [k for k in range(1, g + 1) if math.gcd(k, g) == 1]
            ks = [k for k in units if all((y - k * x) % g == 0 for x, y in zip(c, b))]
            if ks:
                found.append((g, ks))
    g, ks = found[-1]
    return told(Fraction(g, m * n)) if any((s - k * r) % g == 0 for k in ks) else (0, 1)


class Examples(unittest.TestCase):
    def test_share_of_both(self):
        self.assertEqual(share_of_both((4, (1, 1), 1), (6, (1, 3), 0)), (0, 1))
        self.assertEqual(share_of_both((4, (1, 1), 2), (6, (1, 3), 0)), (1, 12))

    def test_mean_and_distance(self):
        self.assertEqual(mean(HEAP), (23, 12))
        self.assertEqual(distance(HEAP, ()), (37, 4))

    def test_arguments_by_name(self):
        self.assertEqual(mean(heap=HEAP), (23, 12))
        self.assertEqual(distance(other=(), one=HEAP), (37, 4))
        self.assertEqual(likeness(step=(0, 0), other=HEAP, one=HEAP), (37, 4))
        self.assertEqual(share_of_both(other=(6, (1, 3), 0), one=(4, (1, 1), 2)), (1, 12))


class Shares(unittest.TestCase):
    def test_all_small_stripes(self):
        for breadth, periods in ((1, (1, 2, 3, 4, 6, 8)), (2, (1, 2, 3, 4)), (3, (1, 2))):
            stripes = [stripe for m in periods for stripe in brute.stripes_of(m, breadth)]
            side = math.lcm(*periods)
            for one, other in itertools.product(stripes, repeat=2):
                self.assertEqual(share_of_both(one, other), told_share(one, other), (one, other))
            maker = brute.Maker(401)
            for one, other in [maker.rand.choices(stripes, k=2) for _ in range(150)]:
                both = [brute.on(one, cell) and brute.on(other, cell) for cell in brute.box(breadth, side)]
                self.assertEqual(share_of_both(one, other), mean_in_box(both), (one, other))

    def test_random_stripes(self):
        maker = brute.Maker(402)
        for _ in range(400):
            breadth = maker.rand.randrange(1, 4)
            one, other = [maker.stripe(breadth, [4, 6, 8, 9, 12, 18, 24, 30, 36]) for _ in range(2)]
            self.assertEqual(share_of_both(one, other), told_share(one, other), (one, other))
            self.assertEqual(share_of_both(other, one), share_of_both(one, other))

    def test_great_stripes(self):
        maker = brute.Maker(403)
        for m in GREAT:
            for breadth in (1, 2, 3):
                _, c, r = one = maker.stripe(breadth, [m])
                self.assertEqual(share_of_both(one, one), (1, m))
                self.assertEqual(share_of_both(one, maker.turned(one)), (1, m))
                self.assertEqual(share_of_both(one, (m, c, (r + m // 2) % m)), (0, 1))
                for p, _ in brute.powers_of(m):
                    parent = (m // p, tuple(number % (m // p) for number in c), r % (m // p))
                    self.assertEqual(share_of_both(maker.turned(one), maker.turned(parent)), (1, m))
                    self.assertEqual(share_of_both(parent, one), (1, m))
                other = (1, (0,) * breadth, 0)
                self.assertEqual(share_of_both(other, one), (1, m))
                self.assertEqual(share_of_both(other, other), (1, 1))
        one, other = (2 ** 130, (1, 0), 5), (3 ** 83, (1, 0), 7)
        self.assertEqual(share_of_both(one, other), (1, 2 ** 130 * 3 ** 83))
        self.assertEqual(share_of_both((2 ** 130, (1, 2 ** 70), 2 ** 70), (2 ** 130, (1, 0), 0)), (1, 2 ** 190))
        self.assertEqual(share_of_both((2 ** 130, (1, 2 ** 70), 2 ** 69), (2 ** 130, (1, 0), 0)), (0, 1))

    def test_errors_in_their_order(self):
        right = (2, (1, 0), 0)
        for wrong in brute.NO_STRIPES:
            for one, other in ((wrong, right), (wrong, None), (wrong, (2, (1,), 0)), (right, wrong)):
                with self.assertRaises(BadStripe) as caught:
                    share_of_both(one, other)
                self.assertIs(caught.exception.thing, wrong)
        for one, other in itertools.permutations(((2, (1,), 0), right, (1, (0, 0, 0), 0)), 2):
            with self.assertRaises(OtherBreadth) as caught:
                share_of_both(one, other)
            self.assertIs(caught.exception.thing, other)


class InBoxes(unittest.TestCase):
    """Means, distances and likenesses of looks of which all cells can be seen."""

    def test_random_heaps(self):
        maker = brute.Maker(404)
        for side, breadth in ((4, 2), (6, 2), (12, 1), (30, 1), (4, 3), (6, 3), (9, 2), (12, 2)) * 8:
            periods = [m for m in range(1, side + 1) if side % m == 0]
            one, other = [maker.heap(breadth, periods, maker.rand.randrange(7), 10 ** 39) for _ in range(2)]
            cells = list(brute.box(breadth, side))
            tints = [(brute.tint(one, cell), brute.tint(other, cell)) for cell in cells]
            self.assertEqual(mean(one), mean_in_box(a for a, _ in tints))
            self.assertEqual(distance(one, other), mean_in_box((a - b) ** 2 for a, b in tints))
            step = tuple(maker.rand.randrange(-40, 40) for _ in range(breadth))
            there = [tuple(a + b for a, b in zip(cell, step)) for cell in cells]
            products = [brute.tint(one, cell) * brute.tint(other, far) for cell, far in zip(cells, there)]
            self.assertEqual(likeness(one, other, step), mean_in_box(products))
            far = tuple(number + side * 10 ** 55 for number in step)
            self.assertEqual(likeness(one, other, far), mean_in_box(products))
            back = tuple(-number for number in step)
            self.assertEqual(likeness(other, one, back), likeness(one, other, step))

    def test_fractions_are_in_lowest_terms(self):
        self.assertEqual(mean((((6, (1,), 0), 4),)), (2, 3))
        self.assertEqual(mean((((6, (1,), 0), -3), ((6, (1,), 1), -3))), (-1, 1))
        self.assertEqual(mean((((4, (1,), 0), 1), ((4, (1,), 1), -1))), (0, 1))
        self.assertEqual(distance((((4, (1,), 0), 2),), ()), (1, 1))
        self.assertEqual(likeness((((4, (1,), 0), 2),), (((2, (1,), 0), -1),), (1,)), (0, 1))
        self.assertEqual(likeness((((4, (1,), 0), 2),), (((2, (1,), 0), -1),), (2,)), (-1, 2))


class Distances(unittest.TestCase):
    def test_zero_exactly_if_alike(self):
        maker = brute.Maker(405)
        for primes in ((2,), (3,), (2, 3), (2, 5, 7)) * 8:
            breadth = maker.rand.randrange(1, 4)
            one = maker.heap(breadth, [maker.period(10 ** 30, primes) for _ in range(2)], 4, 10 ** 40 - 1)
            other = maker.retold(one, primes, 20)
            self.assertEqual(distance(one, other), (0, 1))
            self.assertEqual(distance(one, plain_heap(one)), (0, 1))
            stripe = maker.rand.choice(other)[0]
            changed = brute.heap_of({**dict(other), stripe: dict(other)[stripe] + 1})
            self.assertIs(do_look_alike(one, changed), False)
            self.assertEqual(distance(one, changed), (1, stripe[0]))
            self.assertEqual(mean(one), mean(plain_heap(one)))

    def test_full_heaps_of_great_periods(self):
        maker = brute.Maker(406)
        for breadth in (1, 2, 3):
            one, other = [
                maker.heap(breadth, [maker.period(10 ** 40 - 1) for _ in range(12)], 24, 10 ** 40 - 1) for _ in range(2)
            ]
            step = tuple(maker.rand.randrange(-10 ** 60, 10 ** 60) for _ in range(breadth))
            moved = brute.heap_of({
                (m, c, (r - sum(a * b for a, b in zip(c, step))) % m): tint for (m, c, r), tint in other
            })
            for a, b, at in ((one, other, step), (one, moved, (0,) * breadth)):
                self.assertEqual(likeness(a, b, at), likeness(one, other, step))
            both = Fraction(*distance(one, ())) + Fraction(*distance(other, ()))
            product = Fraction(*likeness(one, other, (0,) * breadth))
            self.assertEqual(distance(one, other), told(both - 2 * product))
            self.assertEqual(mean(one), told(sum(Fraction(tint, stripe[0]) for stripe, tint in one)))
            self.assertEqual(likeness(one, one, (0,) * breadth), distance(one, ()))

    def test_longer_heaps_that_are_returned(self):
        m = 2 ** 6 * 3 ** 4 * 5 ** 2 * 7
        heap = (((m, (1, 0), m - 1), 2),)
        long = plain_heap(heap)
        self.assertEqual(len(long), 7 * 9 * 9 * 7)
        self.assertEqual(mean(long), told(Fraction(2, m)))
        self.assertEqual(distance(long, ()), told(Fraction(4, m)))
        self.assertEqual(distance(long, heap), (0, 1))
        self.assertEqual(likeness(heap, long, (m, 5)), told(Fraction(4, m)))

    def test_empty_heaps_and_looks_that_are_zero(self):
        self.assertEqual(mean(()), (0, 1))
        self.assertEqual(mean(NOTHING), (0, 1))
        self.assertEqual(distance((), ()), (0, 1))
        self.assertEqual(distance(NOTHING, ()), (0, 1))
        self.assertEqual(distance(HEAP, NOTHING), (37, 4))
        for step in ((1,), (0, 0), (5, -7, 10 ** 59)):
            self.assertEqual(likeness((), (), step), (0, 1))
        self.assertEqual(likeness(HEAP, NOTHING, (1, 2)), (0, 1))
        self.assertEqual(likeness((), HEAP, (1, 2)), (0, 1))
        self.assertEqual(mean((((1, (0, 0, 0), 0), -5),)), (-5, 1))


class LikeItself(unittest.TestCase):
    def test_greatest_exactly_at_returns(self):
        maker = brute.Maker(407)
        for side, breadth in ((4, 2), (6, 2), (12, 1), (3, 3)) * 6:
            periods = [m for m in range(1, side + 1) if side % m == 0]
            heap = maker.heap(breadth, periods, maker.rand.randrange(1, 5))
            most = Fraction(*likeness(heap, heap, (0,) * breadth))
            for step in brute.box(breadth, side):
                here = Fraction(*likeness(heap, heap, step))
                self.assertLessEqual(here, most)
                self.assertIs(here == most, is_return(heap, step))


class Errors(unittest.TestCase):
    CALLS = (distance, lambda one, other: likeness(one, other, "no step"))

    def test_heaps_come_first(self):
        for wrong in brute.NO_HEAPS:
            with self.assertRaises(BadHeap) as caught:
                mean(wrong)
            self.assertIs(caught.exception.thing, wrong)
            for call in self.CALLS:
                for one, other in ((wrong, HEAP), (wrong, ()), (wrong, WALK), (wrong, None), (HEAP, wrong), ((), wrong)):
                    with self.assertRaises(BadHeap) as caught:
                        call(one, other)
                    self.assertIs(caught.exception.thing, wrong)

    def test_unlike_breadths(self):
        for one, other in itertools.permutations((HEAP, WALK, ROOM), 2):
            for call in self.CALLS:
                with self.assertRaises(OtherBreadth) as caught:
                    call(one, other)
                self.assertIs(caught.exception.thing, other)

    def test_steps(self):
        wide = {1: [(1, 2), (1, 2, 3)], 2: [(1,), (1, 2, 3)], 3: [(1,), (1, 2)], 0: []}
        for heap, breadth in ((WALK, 1), (HEAP, 2), (ROOM, 3), ((), 0)):
            for wrong in brute.NO_CELLS + wide[breadth] + [(True,) * breadth, [1] * breadth]:
                for one, other in ((heap, heap), (heap, ()), ((), heap)):
                    with self.assertRaises(BadCell) as caught:
                        likeness(one, other, wrong)
                    self.assertIs(caught.exception.thing, wrong)


class Interface(unittest.TestCase):
    def test_defined_in_its_file(self):
        for name in ("mean", "distance", "likeness", "share_of_both"):
            self.assertEqual(getattr(means, name).__module__, "slantpanes.means")


if __name__ == "__main__":
    unittest.main()
