"""Part 4: steps that leave a look as it is."""

import itertools
import math
import unittest

import brute
from slantpanes import returns
from slantpanes.errors import BadCell, BadHeap
from slantpanes.looks import great_levels, levels_of, plain_heap
from slantpanes.returns import comes_again, corner_rows, is_return, judge_return, looks_by_moving, return_holds

HEAP = (((3, (1, 1), 0), 2), ((4, (1, 0), 1), 5))
WALK = (((6, (1,), 2), 1),)
ROOM = (((2, (1, 0, 1), 0), 1), ((3, (0, 1, 1), 0), -1))
NOTHING = (((1, (0, 0), 0), 1), ((2, (1, 0), 0), -1), ((2, (1, 0), 1), -1))
NOTHING_ROOM = (((1, (0, 0, 0), 0), 2), ((3, (1, 0, 2), 0), -2), ((3, (1, 0, 2), 1), -2), ((3, (1, 0, 2), 2), -2))
GREAT = [2 ** 132, 10 ** 39, 29 ** 27, 23 ** 14 * 29 ** 14, 2 ** 30 * 3 ** 20 * 5 ** 15 * 7 ** 12]


def added(cell, step):
    return tuple(a + b for a, b in zip(cell, step))


def leaves(heap, breadth, side, step):
    """[4.1] by its words, for a look that comes again by the side in each number."""
    return all(brute.tint(heap, cell) == brute.tint(heap, added(cell, step)) for cell in brute.box(breadth, side))


def are_corner_rows(rows, breadth):
    """The form that [4.1] tells."""
    if not isinstance(rows, tuple) or len(rows) != breadth:
        return False
    for at, row in enumerate(rows):
        if not brute.told_cell(row) or len(row) != breadth or any(row[:at]) or row[at] < 1:
            return False
        if not all(0 <= row[place] < rows[place][place] for place in range(at + 1, breadth)):
            return False
    return True


def is_sum_of(rows, step):
    """Whether the step is a sum of multiples of the corner rows."""
    for at, row in enumerate(rows):
        if step[at] % row[at] != 0:
            return False
        times = step[at] // row[at]
        step = tuple(a - times * b for a, b in zip(step, row))
    return True


class Examples(unittest.TestCase):
    def test_corner_rows(self):
        self.assertEqual(corner_rows(HEAP), ((4, 2), (0, 3)))
        self.assertEqual(looks_by_moving(HEAP), 12)

    def test_comes_again(self):
        self.assertEqual(comes_again(HEAP, (1, 0)), 12)
        self.assertEqual(comes_again(HEAP, (4, 2)), 1)
        self.assertEqual(comes_again(HEAP, (0, 1)), 3)

    def test_papers(self):
        self.assertIs(return_holds(HEAP, (2, 1), ("apart", (1, 0))), True)
        self.assertEqual(judge_return(HEAP, (2, 1))[0], "apart")
        self.assertIs(return_holds(HEAP, (2, 1), judge_return(HEAP, (2, 1))), True)
        self.assertEqual(judge_return(HEAP, (4, 2)), ("return",))

    def test_arguments_by_name(self):
        self.assertIs(is_return(step=(4, 2), heap=HEAP), True)
        self.assertEqual(comes_again(step=(0, 1), heap=HEAP), 3)
        self.assertEqual(corner_rows(heap=HEAP), ((4, 2), (0, 3)))
        self.assertEqual(looks_by_moving(heap=HEAP), 12)
        self.assertEqual(judge_return(step=(4, 2), heap=HEAP), ("return",))
        self.assertIs(return_holds(thing=("return",), step=(4, 2), heap=HEAP), True)


class SmallLooks(unittest.TestCase):
    """All that part 4 tells, by its words, for looks of which all cells can be seen."""

    def check(self, heap, breadth, side):
        steps = list(brute.box(breadth, side))
        told = {step: leaves(heap, breadth, side, step) for step in steps}
        for step in steps:
            self.assertIs(is_return(heap, step), told[step], (heap, step))
            far = tuple(number - 60 * side * 10 ** 55 for number in step)
            self.assertIs(is_return(heap, far), told[step])
            times = next(n for n in range(1, side + 1) if told[tuple(n * number % side for number in step)])
            self.assertEqual(comes_again(heap, step), times)
            self.assertEqual(comes_again(heap, tuple(-number for number in step)), times)
        rows = corner_rows(heap)
        self.assertTrue(are_corner_rows(rows, breadth), rows)
        for step in steps:
            self.assertIs(is_sum_of(rows, step), told[step], (heap, rows, step))
        moved = {tuple(brute.tint(heap, added(cell, step)) for cell in brute.box(breadth, side)) for step in steps}
        self.assertEqual(looks_by_moving(heap), len(moved))

    def test_random_heaps(self):
        maker = brute.Maker(101)
        for side, breadth in ((2, 2), (3, 2), (4, 2), (6, 2), (12, 1), (30, 1), (2, 3), (3, 3), (4, 3)) * 3:
            periods = [m for m in range(1, side + 1) if side % m == 0]
            self.check(maker.heap(breadth, periods, maker.rand.randrange(1, 6), 2), breadth, side)

    def test_each_small_stripe(self):
        for m, breadth in ((1, 1), (1, 2), (1, 3), (2, 2), (3, 2), (4, 1), (4, 2), (6, 1), (2, 3)):
            for stripe in brute.stripes_of(m, breadth):
                self.check(((stripe, -3),), breadth, m)

    def test_looks_that_come_again_sooner_than_their_stripes(self):
        self.check((((6, (1, 1), 0), 1), ((6, (1, 1), 3), 1)), 2, 6)
        self.check((((2, (0, 1), 1), 1), ((4, (1, 1), 0), 1), ((4, (1, 1), 2), 1)), 2, 4)
        self.check(NOTHING, 2, 2)
        self.check(NOTHING_ROOM, 3, 3)
        maker = brute.Maker(102)
        for _ in range(8):
            heap = maker.retold(maker.heap(2, [1, 2, 3], 2), [2], 12)
            self.check(heap, 2, 12 if any(stripe[0] % 4 == 0 for stripe, _ in heap) else 6) if heap else None

    def test_returns_are_closed(self):
        maker = brute.Maker(103)
        for breadth in (1, 2, 3) * 5:
            heap = maker.heap(breadth, [maker.period(10 ** 30) for _ in range(2)], 3)
            rows = corner_rows(heap)
            factors = [maker.rand.randrange(-10 ** 9, 10 ** 9) for _ in rows]
            step = tuple(sum(factor * row[place] for factor, row in zip(factors, rows)) for place in range(breadth))
            self.assertIs(is_return(heap, step), True)
            self.assertIs(is_return(heap, tuple(-number for number in step)), True)


class GreatPeriods(unittest.TestCase):
    def told_again(self, heap, step):
        """The least common multiple of how often the step is to be made for each level."""
        again = 1
        for m, c in levels_of(heap):
            again = math.lcm(again, m // math.gcd(m, sum(a * b for a, b in zip(c, step))))
        return again

    def test_one_stripe(self):
        for m in GREAT:
            for breadth in (1, 2, 3):
                heap = (((m, (1, 7, m - 1)[:breadth], 5), 1),)
                self.assertEqual(looks_by_moving(heap), m)
                rows = corner_rows(heap)
                self.assertTrue(are_corner_rows(rows, breadth))
                self.assertEqual(rows[-1][-1], m // math.gcd(m, (1, 7, m - 1)[breadth - 1]))
                self.assertEqual(comes_again(heap, (1, 0, 0)[:breadth]), m)
                self.assertEqual(comes_again(heap, (m // 29 * 29 or 1, 0, 0)[:breadth]), m // math.gcd(m, m // 29 * 29))

    def test_full_heaps(self):
        maker = brute.Maker(104)
        for breadth in (1, 2, 3):
            for primes in (brute.PRIMES, (2,), (2, 3, 5), (7,)):
                heap = maker.heap(breadth, [maker.period(10 ** 40 - 1, primes) for _ in range(8)], 24, 10 ** 40 - 1)
                if sum(brute.plain_pieces(brute_normal(stripe)) for stripe, _ in heap) > 400:
                    continue
                rows = corner_rows(heap)
                self.assertTrue(are_corner_rows(rows, breadth))
                for at, row in enumerate(rows):
                    self.assertIs(is_return(heap, row), True)
                    for p in [p for p in brute.PRIMES if row[at] % p == 0]:
                        self.assert_no_shorter(heap, rows, at, p)
                step = tuple(maker.rand.randrange(-10 ** 60, 10 ** 60) for _ in range(breadth))
                again = comes_again(heap, step)
                self.assertEqual(again, self.told_again(heap, step))
                self.assertIs(is_return(heap, tuple(again * number for number in step)), True)
                self.assertIs(is_return(heap, step), again == 1)
                many = 1
                for place, row in enumerate(rows):
                    many *= row[place]
                self.assertEqual(looks_by_moving(heap), many)

    def assert_no_shorter(self, heap, rows, at, p):
        """No return has a p-th of the number in the place and 0 before it: then p of them less the row is one, too."""
        if at == len(rows) - 1:
            short = tuple([0] * at + [rows[at][at] // p])
            self.assertIs(is_return(heap, short), False)

    def test_how_many_looks_by_levels_of_unlike_primes(self):
        for breadth, c in ((1, (1,)), (2, (1, 5)), (3, (1, 4, 9))):
            periods = [2 ** 100, 3 ** 60, 5 ** 50, 7 ** 40, 11 ** 30, 13 ** 30, 17 ** 30, 19 ** 30, 23 ** 29, 29 ** 27]
            heap = brute.heap_of({(m, tuple(number % m for number in c), 0): 1 for m in periods})
            self.assertEqual(looks_by_moving(heap), math.prod(periods))
            self.assertEqual(comes_again(heap, (1, 0, 0)[:breadth]), math.prod(periods))

    def test_great_levels_alone_tell_the_returns(self):
        heap = (((3 ** 20, (1, 0), 3 ** 20 - 1), 1), ((2 ** 40, (1, 2), 2 ** 40 - 1), 1))
        self.assertEqual(len(great_levels(heap)), 2)
        self.assertEqual(looks_by_moving(heap), 2 ** 40 * 3 ** 20)
        self.assertEqual(corner_rows(plain_heap(heap)), corner_rows(heap))


def brute_normal(stripe):
    """The normal form of a stripe, by [1.4]: by each prime power, the first number that can be made 1."""
    m, c, r = stripe
    factor = 0
    for p, q in brute.powers_of(m):
        first = [number for number in c if number % p][0]
        rest = m // q
        factor += pow(first, -1, q) * rest * pow(rest, -1, q)
    return (m, tuple(factor * number % m for number in c), factor * r % m)


class EmptyHeaps(unittest.TestCase):
    def test_the_breadth_two_is_taken(self):
        self.assertEqual(corner_rows(()), ((1, 0), (0, 1)))
        self.assertEqual(looks_by_moving(()), 1)

    def test_steps_of_any_breadth(self):
        for step in ((1,), (0, 0), (-5, 10 ** 59, 3)):
            self.assertIs(is_return((), step), True)
            self.assertEqual(comes_again((), step), 1)
            self.assertEqual(judge_return((), step), ("return",))
            self.assertIs(return_holds((), step, ("return",)), True)
            for cell in ((0,), (0, 0), (0, 0, 0)):
                self.assertIs(return_holds((), step, ("apart", cell)), False)

    def test_looks_that_are_zero(self):
        self.assertEqual(corner_rows(NOTHING), ((1, 0), (0, 1)))
        self.assertEqual(corner_rows(NOTHING_ROOM), ((1, 0, 0), (0, 1, 0), (0, 0, 1)))
        self.assertEqual(judge_return(NOTHING, (1, 0)), ("return",))
        self.assertEqual(comes_again(NOTHING_ROOM, (5, 7, 1)), 1)

    def test_the_period_one(self):
        for breadth in (1, 2, 3):
            heap = (((1, (0,) * breadth, 0), 5),)
            unit = tuple(tuple(int(a == b) for a in range(breadth)) for b in range(breadth))
            self.assertEqual(corner_rows(heap), unit)
            self.assertEqual(looks_by_moving(heap), 1)
            self.assertEqual(judge_return(heap, (7, -3, 1)[:breadth]), ("return",))


class Papers(unittest.TestCase):
    def check(self, heap, step):
        paper = judge_return(heap, step)
        self.assertEqual(judge_return(heap, step), paper)
        self.assertIs(return_holds(heap, step, paper), True)
        if is_return(heap, step):
            self.assertEqual(paper, ("return",))
        else:
            self.assertEqual((len(paper), paper[0]), (2, "apart"))
            self.assertTrue(brute.told_cell(paper[1]) and len(paper[1]) == len(step))
            self.assertNotEqual(brute.tint(heap, paper[1]), brute.tint(heap, added(paper[1], step)))
            self.assertIs(return_holds(heap, step, ("return",)), False)
        return paper

    def test_random_heaps(self):
        maker = brute.Maker(105)
        kinds = []
        for _ in range(150):
            breadth = maker.rand.randrange(1, 4)
            heap = maker.heap(breadth, [1, 2, 3, 4, 6, 8, 9, 12], maker.rand.randrange(6))
            step = tuple(maker.rand.choice((0, 2, 3, 4, -6, 12, 24, 5)) for _ in range(breadth))
            kinds.append(self.check(heap, step)[0])
            for row in corner_rows(heap) if heap else ():
                self.assertEqual(self.check(heap, row), ("return",))
        self.assertGreater(kinds.count("apart"), 20)
        self.assertGreater(kinds.count("return"), 20)

    def test_steps_that_are_nearly_returns(self):
        maker = brute.Maker(106)
        for m in GREAT:
            for breadth in (1, 2, 3):
                stripe = maker.stripe(breadth, [m])
                for heap in (((stripe, 10 ** 39),), brute.heap_of({stripe: 1, maker.stripe(breadth, [m]): -1})):
                    for row in corner_rows(heap):
                        for p, _ in brute.powers_of(m):
                            if all(number % p == 0 for number in row):
                                self.check(heap, tuple(number // p for number in row))
                        self.check(heap, tuple(5 * number for number in row))

    def test_heaps_that_are_zero_nearly_everywhere(self):
        maker = brute.Maker(107)
        for primes in ((2,), (3,), (2, 3), (5,), (2, 7), (11,)) * 3:
            breadth = maker.rand.randrange(1, 4)
            tints, left = {(1, (0,) * breadth, 0): 1}, (1, (0,) * breadth, 0)
            while True:
                p = maker.rand.choice(primes)
                if len(tints) + p - 1 > 12:
                    break
                children = maker.parted(left, p)
                maker.rand.shuffle(children)
                left = children.pop()
                tints.update({child: -1 for child in children})
            heap = brute.heap_of(tints)
            period = comes_again(heap, (1, 0, 0)[:breadth])
            for number in {1, -1, 2, period, *[period // p for p, _ in brute.powers_of(period)]}:
                self.check(heap, (number, 0, 0)[:breadth])

    def test_heaps_with_twelve_pairs_of_great_periods(self):
        maker = brute.Maker(108)
        for breadth in (1, 2, 3):
            for primes in (brute.PRIMES, (2,), (2, 3, 5, 7), (13, 17)):
                heap = maker.heap(breadth, [maker.period(10 ** 40 - 1, primes) for _ in range(4)], 12, 10 ** 40 - 1)
                step = tuple(maker.rand.randrange(-10 ** 60, 10 ** 60) for _ in range(breadth))
                self.check(heap, step)

    def test_all_cells_of_a_box(self):
        for step in ((2, 1), (4, 2), (0, 3), (1, 0), (-3, 5)):
            for cell in itertools.product(range(-4, 9), repeat=2):
                parts = brute.tint(HEAP, cell) != brute.tint(HEAP, added(cell, step))
                self.assertIs(return_holds(HEAP, step, ("apart", cell)), parts)

    def test_papers_wrong_at_one_place(self):
        for heap, step in ((HEAP, (2, 1)), (HEAP, (4, 2)), (WALK, (3,)), (ROOM, (1, 1, 1)), (ROOM, (2, 6, 0))):
            paper = judge_return(heap, step)
            for thing in brute.spoiled(paper):
                right = False
                if isinstance(thing, tuple) and len(thing) == 1:
                    right = thing == ("return",) and paper == ("return",)
                elif isinstance(thing, tuple) and len(thing) == 2 and thing[0] == "apart":
                    if brute.told_cell(thing[1]) and len(thing[1]) == len(step):
                        right = brute.tint(heap, thing[1]) != brute.tint(heap, added(thing[1], step))
                self.assertIs(return_holds(heap, step, thing), right, thing)

    def test_any_values(self):
        for heap, step in ((HEAP, (2, 1)), (HEAP, (4, 2)), ((), (1, 1)), (WALK, (1,)), (ROOM, (0, 0, 0))):
            for thing in brute.NO_HEAPS + [("returns",), ("return", ()), ["return"], "return", ("apart",)]:
                self.assertIs(return_holds(heap, step, thing), False)
            for told in brute.NO_CELLS:
                self.assertIs(return_holds(heap, step, ("apart", told)), False)
        self.assertIs(return_holds(WALK, (1,), ("apart", (2,))), True)
        for told in ((True,), [2], (2, 0), ()):
            self.assertIs(return_holds(WALK, (1,), ("apart", told)), False)
        for far in (2 + 6 * 10 ** 98, 1 - 6 * 10 ** 98):
            self.assertIs(return_holds(WALK, (1,), ("apart", (far,))), True)


class Errors(unittest.TestCase):
    def test_heaps_come_first(self):
        calls = (is_return, comes_again, judge_return, lambda heap, step: return_holds(heap, step, ("return",)))
        for wrong in brute.NO_HEAPS:
            for call in calls:
                for step in ((1, 0), (1,), None, "no step"):
                    with self.assertRaises(BadHeap) as caught:
                        call(wrong, step)
                    self.assertIs(caught.exception.thing, wrong)
            for call in (corner_rows, looks_by_moving):
                with self.assertRaises(BadHeap) as caught:
                    call(wrong)
                self.assertIs(caught.exception.thing, wrong)

    def test_steps(self):
        calls = (is_return, comes_again, judge_return, lambda heap, step: return_holds(heap, step, None))
        wide = {1: [(1, 2), (1, 2, 3)], 2: [(1,), (1, 2, 3)], 3: [(1,), (1, 2)], 0: []}
        for heap, breadth in ((WALK, 1), (HEAP, 2), (NOTHING, 2), (ROOM, 3), ((), 0)):
            for wrong in brute.NO_CELLS + wide[breadth] + [(True,) * breadth, [1] * breadth]:
                for call in calls:
                    with self.assertRaises(BadCell) as caught:
                        call(heap, wrong)
                    self.assertIs(caught.exception.thing, wrong)


class Interface(unittest.TestCase):
    def test_defined_in_its_file(self):
        for name in ("is_return", "comes_again", "corner_rows", "looks_by_moving", "judge_return", "return_holds"):
            self.assertEqual(getattr(returns, name).__module__, "slantpanes.returns")


if __name__ == "__main__":
    unittest.main()
