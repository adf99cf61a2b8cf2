"""Part 10: lamps by a prime."""

import itertools
import math
import time
import unittest

import brute
from slantpanes import lamps
from slantpanes.heaps import added, times
from slantpanes.lamps import do_shine_alike, judge_lamps, lamp_at, lamp_degree, lamp_form, lamps_hold
from slantpanes.looks import plain_heap

WHOLE = (1, (0, 0), 0)
# An even number of these stripes lies on each cell [10.1].
FIVE = tuple((stripe, 1) for stripe in sorted(
    [(2, (0, 1), 1), (4, (1, 1), 2), (4, (1, 1), 3), (4, (1, 3), 2), (4, (1, 3), 3)]))
HEAP = (((2, (1, 1), 0), 3), ((6, (1, 2), 5), -4), ((9, (3, 1), 7), 1))
# For each prime the breadth, the greatest p-part and the greatest rests within the limits.
LIMITS = {
    2: [(1, 128, (29, 27, 15)), (2, 8, (29, 27, 21)), (3, 4, (9, 7, 5))],
    3: [(1, 81, (29, 28, 20)), (2, 9, (28, 16, 10)), (3, 3, (10, 8))],
    5: [(1, 125, (29, 24, 18)), (2, 5, (28, 24)), (3, 5, (9, 8, 6))],
    7: [(1, 49, (30, 29)), (2, 7, (30, 27)), (3, 1, (10, 9))],
}
NO_LAMP_PRIMES = brute.NOTHING_OF_ALL + [0, 1, 4, 6, 8, 9, 11, 13, -2, 10 ** 99, "2", (2,), [2], ()]


def choose(x, k):
    """C(x, k) of [10.3] by its words."""
    return math.prod(x - j for j in range(k)) // math.factorial(k)


def lamp_of(form, p, cell):
    """The lamp that a form tells."""
    return sum(a * math.prod(choose(x, j) for x, j in zip(cell, k)) for rest, k, a in form if brute.on(rest, cell)) % p


def told_form(form, p, breadth):
    """The shape of a lamp form by the words of [10.4]."""
    for rest, k, a in form:
        if not brute.told_plain(rest) or rest[0] % p == 0 or len(rest[1]) != breadth or len(k) != breadth:
            return False
        if not all(brute.is_whole(number) and number >= 0 for number in k) or not 1 <= a <= p - 1:
            return False
    return list(form) == sorted(form) and len({item[:2] for item in form}) == len(form)


def part(m, p):
    q = 1
    while m % (q * p) == 0:
        q *= p
    return q


def lamp_box(p, *heaps):
    """The cells of a box after which all lamps come again."""
    stripes = [stripe for heap in heaps for stripe, _ in heap]
    return list(brute.box(len(stripes[0][1]), math.lcm(*[stripe[0] for stripe in stripes])))


class Examples(unittest.TestCase):
    def test_forms(self):
        heap = (((2, (1, 1), 0), 3),)
        self.assertEqual(lamp_form(heap, 2), ((WHOLE, (0, 0), 1), (WHOLE, (0, 1), 1), (WHOLE, (1, 0), 1)))
        self.assertEqual(lamp_degree(heap, 2), 1)
        self.assertEqual(lamp_form((((4, (1, 0), 2), 1), ((4, (1, 0), 3), 1)), 2), ((WHOLE, (2, 0), 1),))
        self.assertEqual(lamp_form((((2, (1, 0), 1), 3),), 5), ((WHOLE, (0, 0), 3), ((2, (1, 0), 0), (0, 0), 2)))

    def test_heaps_that_shine_alike_and_do_not_look_alike(self):
        self.assertIs(do_shine_alike(FIVE, (), 2), True)
        self.assertEqual(judge_lamps(FIVE, (), 2), ("alike", ()))
        self.assertTrue(any(tint % 2 for _, tint in plain_heap(FIVE)))
        self.assertTrue(all(brute.tint(FIVE, cell) % 2 == 0 for cell in brute.box(2, 4)))
        self.assertIs(do_shine_alike(FIVE, (), 3), False)

    def test_arguments_by_name(self):
        self.assertEqual(lamp_at(cell=(0, 0), p=2, heap=HEAP), 1)
        self.assertEqual(lamp_form(p=2, heap=()), ())
        self.assertEqual(lamp_degree(p=2, heap=()), -1)
        self.assertIs(do_shine_alike(p=2, other=(), one=FIVE), True)
        self.assertEqual(judge_lamps(p=2, other=(), one=FIVE), ("alike", ()))
        self.assertIs(lamps_hold(thing=("alike", ()), p=2, other=(), one=FIVE), True)

    def test_defined_in_its_file(self):
        for name in ("lamp_at", "lamp_form", "lamp_degree", "do_shine_alike", "judge_lamps", "lamps_hold"):
            self.assertEqual(getattr(lamps, name).__module__, "slantpanes.lamps")


class Lamps(unittest.TestCase):
    def test_tints_by_the_prime(self):
        maker = brute.Maker(601)
        for trial in range(40):
            breadth = trial % 3 + 1
            heap = maker.heap(breadth, [1, 2, 3, 4, 6], 6, 10 ** 39)
            for p, cell in itertools.product((2, 3, 5, 7), brute.box(breadth, 3)):
                self.assertEqual(lamp_at(heap, p, cell), brute.tint(heap, cell) % p)
        self.assertEqual(lamp_at((((1, (0,), 0), -1),), 7, (10 ** 59,)), 6)
        self.assertEqual(lamp_at((), 7, (10 ** 59, 0, -1)), 0)

    def test_errors_in_their_order(self):
        for wrong in brute.NO_HEAPS:
            name, told = brute.raised(lamp_at, wrong, None, None)
            self.assertEqual(name, "BadHeap")
            self.assertIs(told["thing"], wrong)
        for wrong in NO_LAMP_PRIMES:
            name, told = brute.raised(lamp_at, HEAP, wrong, None)
            self.assertEqual(name, "BadPrime")
            self.assertIs(told["thing"], wrong)
        for wrong in brute.NO_CELLS + [(1,), (1, 2, 3)]:
            name, told = brute.raised(lamp_at, HEAP, 2, wrong)
            self.assertEqual(name, "BadCell")
            self.assertIs(told["thing"], wrong)


class Forms(unittest.TestCase):
    def check(self, heap, p, cells):
        form = lamp_form(heap, p)
        self.assertTrue(told_form(form, p, len(heap[0][0][1]) if heap else 0), (heap, p, form))
        for cell in cells:
            self.assertEqual(lamp_of(form, p, cell), brute.tint(heap, cell) % p, (heap, p, cell))
        self.assertEqual(lamp_degree(heap, p), max([sum(k) for _, k, _ in form], default=-1))
        return form

    def test_small_heaps(self):
        maker = brute.Maker(602)
        for p in (2, 3, 5, 7):
            for trial in range(24):
                breadth = trial % 3 + 1
                periods = [1, 2, 3, p, 2 * p] if breadth == 3 else [1, 2, 3, 4, p, p * p, 6]
                if p == 7:
                    periods = [1, 2, 3, 4, 7, 14][:6 if breadth < 3 else 4]
                heap = maker.heap(breadth, periods, maker.rand.randrange(6), 9)
                cells = [tuple(maker.rand.randrange(-40, 40) for _ in range(breadth)) for _ in range(40)]
                form = self.check(heap, p, cells)
                greatest = max([part(stripe[0], p) for stripe, _ in heap], default=1)
                self.assertLessEqual(lamp_degree(heap, p), greatest - 1)
                self.assertTrue(all(number < greatest for _, k, _ in form for number in k))

    def test_one_stripe(self):
        for p, q in ((2, 2), (2, 4), (2, 8), (3, 3), (3, 9), (5, 5), (7, 7)):
            for c in itertools.product(range(q), repeat=2) if q < 8 else [(1, 3), (2, 5), (6, 1)]:
                stripe = (q, c, q - 1 - c[0])
                if brute.told_stripe(stripe):
                    self.check(((stripe, p + 1),), p, brute.box(2, q))
                    self.assertEqual(lamp_degree(((stripe, p + 1),), p), q - 1)

    def test_no_period_is_divided_by_the_prime(self):
        maker = brute.Maker(603)
        for p in (2, 3, 5, 7):
            for trial in range(12):
                breadth = trial % 3 + 1
                periods = [m for m in (1, 2, 3, 4, 5, 6, 7, 8, 9, 10) if m % p and (breadth < 3 or m in (1, 2, 3, 4, 6))]
                heap = maker.heap(breadth, periods, 4, 20)
                wanted = tuple((stripe, (0,) * breadth, tint % p) for stripe, tint in plain_heap(heap) if tint % p)
                self.assertEqual(lamp_form(heap, p), wanted)
                self.assertIn(lamp_degree(heap, p), (0, -1))

    def test_multiples_of_the_prime_do_not_shine(self):
        for p in (2, 3, 5, 7):
            self.assertEqual(lamp_form(times(HEAP, 7 * p), p), ())
            self.assertEqual(lamp_degree(times(HEAP, -p), p), -1)
            self.assertEqual(lamp_form(times(HEAP, p + 1), p), lamp_form(HEAP, p))

    def test_the_empty_heap(self):
        for p in (2, 3, 5, 7):
            self.assertEqual((lamp_form((), p), lamp_degree((), p)), ((), -1))

    def test_numbers_at_the_ends_of_the_limits(self):
        maker = brute.Maker(604)
        for p, limits in LIMITS.items():
            for breadth, q, rests in limits:
                for rest in rests:
                    periods = [m for m in (q * rest, q, rest) if brute.told_period(m)]
                    heap = maker.heap(breadth, periods, 12, 10 ** 39)
                    begin = time.perf_counter()
                    form = lamp_form(heap, p)
                    self.assertLess(time.perf_counter() - begin, 5)
                    self.assertTrue(told_form(form, p, breadth))
                    for _ in range(2):
                        cell = tuple(maker.rand.randrange(q * rest) for _ in range(breadth))
                        self.assertEqual(lamp_of(form, p, cell), brute.tint(heap, cell) % p)

    def test_errors_in_their_order(self):
        for call in (lamp_form, lamp_degree):
            for wrong in brute.NO_HEAPS:
                name, told = brute.raised(call, wrong, None)
                self.assertEqual(name, "BadHeap")
                self.assertIs(told["thing"], wrong)
            for wrong in NO_LAMP_PRIMES:
                for heap in (HEAP, ()):
                    name, told = brute.raised(call, heap, wrong)
                    self.assertEqual(name, "BadPrime")
                    self.assertIs(told["thing"], wrong)


class Shining(unittest.TestCase):
    CALLS = (do_shine_alike, judge_lamps, lambda one, other, p: lamps_hold(one, other, p, ("alike", ())))

    def check(self, one, other, p):
        paper = judge_lamps(one, other, p)
        self.assertEqual(judge_lamps(one, other, p), paper)
        self.assertIs(lamps_hold(one, other, p, paper), True)
        self.assertIs(lamps_hold(other, one, p, paper), True)
        alike = lamp_form(one, p) == lamp_form(other, p)
        self.assertIs(do_shine_alike(one, other, p), alike)
        self.assertEqual(paper[0], "alike" if alike else "apart")
        if alike:
            self.assertEqual(paper, ("alike", lamp_form(one, p)))
        else:
            self.assertNotEqual((brute.tint(one, paper[1]) - brute.tint(other, paper[1])) % p, 0)
        return alike

    def test_small_heaps(self):
        maker = brute.Maker(605)
        kinds = []
        for trial in range(160):
            p = maker.rand.choice((2, 3, 5, 7))
            breadth = maker.rand.randrange(1, 3)
            one = maker.heap(breadth, [1, p, 2, 3, 4], maker.rand.randrange(5), 4)
            other = maker.heap(breadth, [1, p, 2, 3, 4], maker.rand.randrange(5), 4)
            if trial % 2:
                other = brute.heap_of({stripe: tint + p * maker.rand.randrange(-2, 3) for stripe, tint in one})
            if trial % 4 == 3:
                other = maker.retold(other, (2, 3), 12)
            kinds.append(self.check(one, other, p))
            if one + other and math.lcm(*[stripe[0] for stripe, _ in one + other]) ** breadth < 4000:
                cells = lamp_box(p, one, other)
                shine = all((brute.tint(one, cell) - brute.tint(other, cell)) % p == 0 for cell in cells)
                self.assertIs(kinds[-1], shine)
        self.assertGreater(kinds.count(True), 40)
        self.assertGreater(kinds.count(False), 40)

    def test_more_heaps_that_shine_alike_alone(self):
        # Through (0, 0) go p + 1 of the stripes with r = 0, and through each other cell one.
        for p in (2, 3, 5, 7):
            lines = {(p, c, 0): 1 for c in [(0, 1)] + [(1, k) for k in range(p)]}
            heap = brute.heap_of({**lines, WHOLE: p - 1})
            self.assertIs(self.check(heap, (), p), True)
            self.assertNotEqual(plain_heap(heap), ())
            self.assertTrue(all(tint % p for _, tint in plain_heap(heap)))
            self.assertIs(self.check(brute.heap_of(lines), ((WHOLE, 1),), p), True)
            self.assertIs(self.check(brute.heap_of(lines), (), p), False)
        moved = tuple(sorted(((4, c, (r + 1) % 4) if m == 4 else (2, c, (r + 1) % 2), 1) for (m, c, r), _ in FIVE))
        self.assertIs(self.check(FIVE, times(FIVE, 3), 2), True)
        self.assertIs(self.check(added(FIVE, HEAP), HEAP, 2), True)
        self.assertIs(self.check(FIVE[1:], (), 2), False)
        self.assertIs(self.check(FIVE[1:], FIVE[:1], 2), True)
        self.assertIs(self.check(moved, (), 2), all(brute.tint(moved, cell) % 2 == 0 for cell in brute.box(2, 4)))

    def test_numbers_at_the_ends_of_the_limits(self):
        maker = brute.Maker(606)
        for p, limits in LIMITS.items():
            for breadth, q, rests in limits:
                rest = maker.rand.choice(rests)
                periods = [m for m in (q * rest, q, rest) if brute.told_period(m)]
                one = maker.heap(breadth, periods, 12, 10 ** 39)
                begin = time.perf_counter()
                self.check(one, maker.heap(breadth, periods, 4, 10 ** 39), p)
                last = one[-1]
                self.check(one, (*one[:-1], (last[0], last[1] + p * 10 ** 30)), p)
                self.check(one[:8], (*one[:7], (one[7][0], one[7][1] + 1)) if one[7][1] != -1 else one[:7], p)
                self.assertLess(time.perf_counter() - begin, 20)

    def test_wrong_papers(self):
        for one, other, p in ((FIVE, (), 2), (HEAP, times(HEAP, 3), 2), (HEAP, (), 2), (HEAP, FIVE, 3), ((), (), 5)):
            paper = judge_lamps(one, other, p)
            form = lamp_form(one, p)
            for thing in brute.spoiled(paper) + [("alike", form), ("alike", lamp_form(other, p)), ("alike", ())]:
                right = False
                if isinstance(thing, tuple) and len(thing) == 2 and thing[0] == "alike":
                    right = brute.same(thing[1], form) and form == lamp_form(other, p)
                if isinstance(thing, tuple) and len(thing) == 2 and thing[0] == "apart" and brute.told_cell(thing[1]):
                    fits = all(len(stripe[1]) == len(thing[1]) for stripe, _ in one + other)
                    right = fits and (brute.tint(one, thing[1]) - brute.tint(other, thing[1])) % p != 0
                self.assertIs(lamps_hold(one, other, p, thing), right, (one, other, p, thing))
            for thing in brute.NO_HEAPS + brute.NO_CELLS:
                if thing != ():
                    self.assertIs(lamps_hold(one, other, p, ("alike", thing)), False)
                self.assertIs(lamps_hold(one, other, p, thing), False)
                self.assertIs(lamps_hold(FIVE, (), 2, ("apart", thing)), False)
        self.assertIs(lamps_hold((((1, (0, 0), 0), 1),), (), 2, ("apart", (10 ** 99, -10 ** 99))), True)
        one = (((1, (0, 0), 0), 1),)
        self.assertIs(lamps_hold(one, one, 2, ("alike", ((WHOLE, (0, 0), 1),))), True)
        for wrong in (((WHOLE, (0, 0), True),), ((WHOLE, (False, 0), 1),), ((WHOLE, [0, 0], 1),), ((WHOLE, (0, 0), 3),),
                      ((WHOLE, (0, 0), 1), (WHOLE, (0, 0), 1)), ((WHOLE, (0, 0)),), ((WHOLE, (0, 0), 1, 1),), [(WHOLE, (0, 0), 1)]):
            self.assertIs(lamps_hold(one, one, 2, ("alike", wrong)), False)

    def test_errors_in_their_order(self):
        for call in self.CALLS:
            for wrong in brute.NO_HEAPS:
                for told in ((wrong, HEAP, None), (HEAP, wrong, None), (wrong, None, 2)):
                    name, parameters = brute.raised(call, *told)
                    self.assertEqual(name, "BadHeap")
                    self.assertIs(parameters["thing"], wrong)
            walk = (((2, (1,), 0), 1),)
            self.assertEqual(brute.raised(call, HEAP, walk, None), ("OtherBreadth", {"thing": walk}))
            self.assertEqual(brute.raised(call, walk, HEAP, 4), ("OtherBreadth", {"thing": HEAP}))
            for wrong in NO_LAMP_PRIMES:
                name, parameters = brute.raised(call, HEAP, (), wrong)
                self.assertEqual(name, "BadPrime")
                self.assertIs(parameters["thing"], wrong)


class Choices(unittest.TestCase):
    """[10.3]: what the forms rest on, of C(x, k) for x below 0, too."""

    def test_forms_tell_lamps_of_cells_below_zero(self):
        for p, q in ((2, 4), (3, 9), (5, 5), (7, 7)):
            form = lamp_form((((q, (1,), q - 2), 1),), p)
            for x in range(-3 * q, 3 * q):
                self.assertEqual(lamp_of(form, p, (x,)), int((x + 2) % q == 0))

    def test_each_choice_is_a_heap_of_a_walk(self):
        # By p, C(x, k) for k below a power q comes again by q, so it is the sum of its values times stripes.
        for p, q in ((2, 8), (3, 9), (5, 5), (7, 7)):
            for k in range(q):
                heap = brute.heap_of({(q, (1,), r): choose(r, k) % p for r in range(q)})
                self.assertEqual(lamp_form(heap, p), (((1, (0,), 0), (k,), 1),))


if __name__ == "__main__":
    unittest.main()
