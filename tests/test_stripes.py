"""Part 1: cells, periods and stripes."""

import itertools
import unittest

import brute
from slantpanes import stripes
from slantpanes.errors import BadCell, BadCount, BadPeriod, BadStripe
from slantpanes.stripes import are_same, breadth_of, is_cell, is_on, is_period, is_stripe
from slantpanes.stripes import normal_stripe, prime_powers, stripe_by

GREAT = [2 ** 132, 10 ** 39, 29 ** 27, 23 ** 14 * 29 ** 14, 2 ** 30 * 3 ** 20 * 5 ** 15 * 7 ** 12, 2 ** 60 * 17 ** 9 * 29 ** 7]


class Examples(unittest.TestCase):
    def test_examples_of_the_document(self):
        self.assertEqual(prime_powers(360), (5, 8, 9))
        self.assertEqual(normal_stripe((6, (4, 3), 1)), (6, (4, 3), 1))
        self.assertEqual(normal_stripe((5, (2, 4), 1)), (5, (1, 2), 3))
        self.assertIs(are_same((4, (3, 1), 2), (4, (1, 3), 2)), True)
        self.assertIs(is_stripe((6, (2, 4), 0)), False)
        self.assertEqual(stripe_by((4, 6), 10, 2), (5, (1, 4), 3))
        self.assertIsNone(stripe_by((4, 6), 10, 3))
        self.assertIs(is_stripe((1, (0, 0), 0)), True)

    def test_arguments_by_name(self):
        self.assertIs(is_period(thing=6), True)
        self.assertIs(is_stripe(thing=(2, (1,), 0)), True)
        self.assertIs(is_cell(thing=(1,)), True)
        self.assertEqual(prime_powers(period=12), (3, 4))
        self.assertEqual(breadth_of(stripe=(2, (1, 0, 0), 0)), 3)
        self.assertEqual(normal_stripe(stripe=(3, (2,), 1)), (3, (1,), 2))
        self.assertIs(are_same(other=(3, (1,), 2), one=(3, (2,), 1)), True)
        self.assertIs(is_on(cell=(5,), stripe=(3, (2,), 1)), True)
        self.assertEqual(stripe_by(r=2, period=10, step=(4, 6)), (5, (1, 4), 3))


class Kinds(unittest.TestCase):
    """is_period, is_cell, is_stripe for any values."""

    def test_periods(self):
        for right in [1, 2, 4, 6, 29, 210, 858, 986, 990, 1000, 2 * 17 * 29, 7 * 11 * 5, *GREAT, 2 ** 300, 29 ** 68]:
            self.assertIs(is_period(right), True, right)
        for wrong in brute.NO_PERIODS:
            self.assertIs(is_period(wrong), False, wrong)

    def test_small_periods_are_just_those_told(self):
        for number in range(-5, 5000):
            self.assertIs(is_period(number), brute.told_period(number), number)

    def test_the_primes_multiplied_come_to_at_most_a_thousand(self):
        lots = [lot for k in range(1, 5) for lot in itertools.combinations(brute.PRIMES, k)]
        for lot in lots:
            multiplied = 1
            for p in lot:
                multiplied *= p
            self.assertIs(is_period(multiplied * lot[0] ** 3), multiplied <= 1000, lot)

    def test_cells(self):
        for right in [(0,), (1, 2), (-1, 0, 1), (10 ** 59, -10 ** 59), (-10 ** 59,) * 3, (10 ** 98,)]:
            self.assertIs(is_cell(right), True, right)
        for wrong in brute.NO_CELLS:
            self.assertIs(is_cell(wrong), False, wrong)

    def test_stripes(self):
        right = [(1, (0,), 0), (1, (0, 0), 0), (1, (0, 0, 0), 0), (2, (1,), 1), (6, (3, 2), 5), (6, (2, 3, 0), 0)]
        right += [(m, (0, m - 1, 1), m - 1) for m in GREAT] + [(m, (0, 1), 0) for m in GREAT]
        for stripe in right:
            self.assertIs(is_stripe(stripe), True, stripe)
            self.assertEqual(breadth_of(stripe), len(stripe[1]))
        for wrong in brute.NO_STRIPES:
            self.assertIs(is_stripe(wrong), False, wrong)

    def test_stripes_wrong_at_one_place(self):
        right = [(1, (0, 0), 0), (2, (1, 0), 1), (6, (3, 2), 5), (12, (1, 0, 11), 7), (10 ** 39, (3, 10 ** 39 - 1), 0)]
        for thing in right:
            for other in brute.spoiled(thing):
                self.assertIs(is_stripe(other), brute.told_stripe(other), other)

    def test_all_small_stripes(self):
        for m in (1, 2, 3, 4, 6):
            numbers = range(-1, m + 2)
            for c in itertools.product(numbers, repeat=2):
                for r in numbers:
                    self.assertIs(is_stripe((m, c, r)), brute.told_stripe((m, c, r)))


class PrimePowers(unittest.TestCase):
    def test_prime_powers(self):
        self.assertEqual(prime_powers(1), ())
        self.assertEqual(prime_powers(2 ** 132), (2 ** 132,))
        self.assertEqual(prime_powers(2 ** 10 * 3 ** 4 * 5), (5, 81, 1024))
        self.assertEqual(prime_powers(2 ** 2 * 3 * 7 * 5 ** 3), (3, 4, 7, 125))
        self.assertEqual(prime_powers(23 ** 14 * 29 ** 14), (23 ** 14, 29 ** 14))

    def test_errors(self):
        for wrong in brute.NO_PERIODS:
            with self.assertRaises(BadPeriod) as caught:
                prime_powers(wrong)
            self.assertIs(caught.exception.thing, wrong)


class NormalForms(unittest.TestCase):
    def test_small_normal_forms_have_the_same_cells_and_there_is_just_one(self):
        for breadth, periods in ((1, range(1, 13)), (2, range(1, 7)), (3, range(1, 4))):
            for m in [m for m in periods if brute.told_period(m)]:
                by_cells = {}
                for stripe in brute.stripes_of(m, breadth):
                    normal = normal_stripe(stripe)
                    self.assertTrue(brute.told_normal(normal), stripe)
                    cells = tuple(cell for cell in brute.box(breadth, m) if brute.on(stripe, cell))
                    self.assertEqual(len(cells), m ** breadth // m)
                    by_cells.setdefault(cells, []).append((stripe, normal))
                for cells, lot in by_cells.items():
                    self.assertEqual(len({normal for _, normal in lot}), 1)
                    self.assertEqual(cells, tuple(cell for cell in brute.box(breadth, m) if brute.on(lot[0][1], cell)))
                self.assertEqual(len({lot[0][1] for lot in by_cells.values()}), len(by_cells))

    def test_are_same_is_about_cells(self):
        some = brute.stripes_of(4, 2) + brute.stripes_of(2, 2) + brute.stripes_of(1, 2)
        cells = {stripe: [brute.on(stripe, cell) for cell in brute.box(2, 4)] for stripe in some}
        for one, other in itertools.product(some, repeat=2):
            self.assertIs(are_same(one, other), cells[one] == cells[other], (one, other))

    def test_unlike_breadths_are_not_the_same(self):
        self.assertIs(are_same((1, (0,), 0), (1, (0, 0), 0)), False)
        self.assertIs(are_same((2, (1, 0), 0), (2, (1, 0, 0), 0)), False)

    def test_great_periods(self):
        maker = brute.Maker(4)
        for m in GREAT:
            for breadth in (1, 2, 3):
                _, c, r = stripe = maker.stripe(breadth, [m])
                normal = normal_stripe(stripe)
                self.assertTrue(brute.told_stripe(normal) and brute.told_normal(normal))
                self.assertEqual(normal_stripe(normal), normal)
                u = next(u for u in iter(lambda: maker.rand.randrange(m), -1) if brute.told_stripe((m, (u,), 0)))
                other = (m, tuple(u * number % m for number in c), u * r % m)
                self.assertEqual(normal_stripe(other), normal)
                self.assertIs(are_same(stripe, other), True)
                moved = (m, other[1], (u * r + 1) % m)
                self.assertIs(are_same(stripe, moved), False)

    def test_the_period_one(self):
        for breadth in (1, 2, 3):
            stripe = (1, (0,) * breadth, 0)
            self.assertEqual(normal_stripe(stripe), stripe)
            self.assertIs(are_same(stripe, stripe), True)
            self.assertIs(is_on(stripe, (-10 ** 59,) * breadth), True)

    def test_errors(self):
        right = (2, (1, 0), 0)
        for wrong in brute.NO_STRIPES:
            for call in (breadth_of, normal_stripe, lambda x: are_same(x, right), lambda x: are_same(right, x),
                         lambda x: are_same(x, [5]), lambda x: is_on(x, (0, 0)), lambda x: is_on(x, "no cell")):
                with self.assertRaises(BadStripe) as caught:
                    call(wrong)
                self.assertIs(caught.exception.thing, wrong)


class OnStripes(unittest.TestCase):
    def test_all_cells_of_a_box(self):
        maker = brute.Maker(5)
        for _ in range(60):
            breadth = maker.rand.randrange(1, 4)
            stripe = maker.stripe(breadth, [1, 2, 3, 4, 5, 6, 8, 9, 12, 30])
            for cell in itertools.product(range(-4, 5), repeat=breadth):
                self.assertIs(is_on(stripe, cell), brute.on(stripe, cell))

    def test_numbers_at_the_ends_of_the_limits(self):
        m = 10 ** 39
        stripe = (m, (1, 10 ** 38 + 1), 7)
        far = 10 ** 59 + 3
        on = 7 - far * (10 ** 38 + 1)
        self.assertIs(is_on(stripe, (on % m - m * 10 ** 20, far)), True)
        self.assertIs(is_on(stripe, (on % m - m * 10 ** 20 + 1, far)), False)
        self.assertIs(is_on(stripe, (-10 ** 60 + 1, 10 ** 60 - 1)), brute.on(stripe, (-10 ** 60 + 1, 10 ** 60 - 1)))

    def test_errors(self):
        stripe = (2, (1, 0), 0)
        for wrong in brute.NO_CELLS + [(1,), (1, 2, 3), (1, False)]:
            with self.assertRaises(BadCell) as caught:
                is_on(stripe, wrong)
            self.assertIs(caught.exception.thing, wrong)


class StripesBySteps(unittest.TestCase):
    def test_cells_of_small_ones(self):
        for breadth, periods, numbers in ((1, (1, 2, 4, 6, 12), range(-7, 14)), (2, (1, 2, 4, 6), range(-2, 5))):
            for m in periods:
                for step in itertools.product(numbers, repeat=breadth):
                    for r in range(-3, 5):
                        self.check(step, m, r)

    def check(self, step, m, r):
        told = stripe_by(step, m, r)
        cells = [sum(a * b for a, b in zip(step, cell)) % m == r % m for cell in brute.box(len(step), m)]
        if told is None:
            self.assertFalse(any(cells))
        else:
            self.assertTrue(brute.told_stripe(told) and brute.told_normal(told))
            self.assertEqual(cells, [brute.on(told, cell) for cell in brute.box(len(step), m)])

    def test_breadth_three_and_great_numbers(self):
        self.assertEqual(stripe_by((6, 10, 15), 30, 29), normal_stripe((30, (6, 10, 15), 29)))
        self.assertEqual(stripe_by((0, 0, 0), 30, 60), (1, (0, 0, 0), 0))
        self.assertIsNone(stripe_by((0, 0, 0), 30, 59))
        self.assertEqual(stripe_by((-10 ** 59, 10 ** 59 + 10), 10 ** 39, 10 ** 59), (10 ** 38, (0, 1), 0))
        self.assertEqual(stripe_by((10 ** 59, 4 * 10 ** 20), 10 ** 39, -8 * 10 ** 20), (10 ** 19 // 4, (0, 1), 10 ** 19 // 4 - 2))
        self.assertEqual(stripe_by((5,), 1, -10 ** 59), (1, (0,), 0))

    def test_errors_in_their_order(self):
        for wrong in brute.NO_CELLS:
            for period, r in ((10, 2), ("x", 2), (31, None), (10, True)):
                with self.assertRaises(BadCell) as caught:
                    stripe_by(wrong, period, r)
                self.assertIs(caught.exception.thing, wrong)
        for wrong in brute.NO_PERIODS:
            for r in (2, True, "2", None):
                with self.assertRaises(BadPeriod) as caught:
                    stripe_by((4, 6), wrong, r)
                self.assertIs(caught.exception.thing, wrong)
        for wrong in brute.NOTHING_OF_ALL + [(), (2,), "2"]:
            with self.assertRaises(BadCount) as caught:
                stripe_by((4, 6), 10, wrong)
            self.assertIs(caught.exception.thing, wrong)


class Interface(unittest.TestCase):
    def test_defined_in_its_file(self):
        for name in ("is_period", "is_stripe", "is_cell", "prime_powers", "breadth_of", "normal_stripe", "are_same",
                     "is_on", "stripe_by"):
            self.assertEqual(getattr(stripes, name).__module__, "slantpanes.stripes")


if __name__ == "__main__":
    unittest.main()
