"""Part 9: floors."""

import functools
import itertools
import math
import unittest
from fractions import Fraction

import brute
from slantpanes import floors
from slantpanes.errors import BadFloor, BadHeap
from slantpanes.floors import (
    fitting_levels, floor_holds, floor_of, is_floor, judge_floor, least_heap, least_multiple, plain_sum,
)
from slantpanes.looks import is_plain, levels_of

FLOOR = ((1, 0), (0, 0))
SIDES = [(a, b) for a in range(1, 37) for b in range(1, 37) if a * b <= 36 and 31 not in (a, b)]
FEW_SIDES = [(1, 1), (1, 2), (2, 2), (1, 4), (2, 3), (3, 3), (4, 2), (6, 1), (1, 8), (2, 6), (9, 1), (4, 3)]
MORE_SIDES = FEW_SIDES + [(5, 5), (6, 6), (36, 1), (4, 8), (3, 12), (29, 1), (1, 35), (18, 2), (4, 9)]
# A heap whose taking apart would never end.
ENDLESS = (((210 ** 42, (1, 0), 210 ** 42 - 1), 1),)
NO_FLOORS = [thing for thing in brute.NOTHING_OF_ALL if thing != ((1,),)] + [
    (), ((),), ((), ()), 0, 5, (1, 0), ((1, 0), (0,)), ((1,), (0, 0)), ((1, 0), [0, 0]), [(1, 0), (0, 0)], ([1, 0],),
    ((1, True), (0, 0)), ((False,),), ((1, None),), ((1, "0"),), ((1, (0,)),), ((1,), ()), ((), (1,)), ((0,),) * 31,
    ((0,) * 31,), ((0,),) * 37, ((0,) * 37,), ((0,) * 6,) * 7, ((0,) * 19,) * 2, ((0,) * 2,) * 19, ((0,) * 32,) * 2,
    ((1, 0), 5), ((1, 0), None), ((1, 0), "01"), (5, (1, 0)), ((1, 0), (0, 0), True),
]
NO_SIDES = brute.NOTHING_OF_ALL + [
    (), 4, (2,), (2, 2, 2), [2, 2], (True, 2), (2, True), (0, 2), (2, 0), (-2, 2), (2, -2), (31, 1), (1, 31), (37, 1),
    (1, 37), (6, 7), (2, 19), (36, 2), (10 ** 39, 1), (1, 10 ** 39), ("2", 2), (2, None), ((2,), (2,)), (2, [2]), (62, 1),
]


def fits(stripe, sides):
    m, c = stripe[:2]
    return c[0] * sides[0] % m == 0 and c[1] * sides[1] % m == 0


@functools.lru_cache(maxsize=None)
def fitting_stripes(sides):
    """All stripes that fit, normal or not; a period that fits divides the least common multiple of the sides."""
    return [
        (m, c, r) for m in range(1, sides[0] * sides[1] + 1) if math.lcm(*sides) % m == 0
        for c in itertools.product(range(m), repeat=2) if fits((m, c), sides) and brute.told_stripe((m, c, 0))
        for r in range(m)
    ]


def cells(sides):
    return list(itertools.product(range(sides[0]), range(sides[1])))


def floor_by(tint, sides):
    return tuple(tuple(tint((x, y)) for y in range(sides[1])) for x in range(sides[0]))


def told_floor(thing):
    """[9.1] by its words."""
    if not isinstance(thing, tuple) or not brute.told_period(len(thing)):
        return False
    if not all(isinstance(row, tuple) and len(row) == len(thing[0]) for row in thing):
        return False
    if not brute.told_period(len(thing[0])) or len(thing) * len(thing[0]) > 36:
        return False
    return all(brute.is_whole(tint) for row in thing for tint in row)


def told_bar(floor, q, weights):
    """The bar of [9.4] by its words."""
    sides = (len(floor), len(floor[0]))
    if not brute.is_whole(q) or q < 2 or not isinstance(weights, tuple) or len(weights) != sides[0]:
        return False
    if not all(isinstance(row, tuple) and len(row) == sides[1] for row in weights):
        return False
    if not all(brute.is_whole(weight) for row in weights for weight in row):
        return False
    for stripe in fitting_stripes(sides):
        if sum(weights[x][y] for x, y in cells(sides) if brute.on(stripe, (x, y))) % q != 0:
            return False
    return sum(weights[x][y] * floor[x][y] for x, y in cells(sides)) % q != 0


def told_look(floor, heap):
    """Whether the look of a heap of the breadth 2, whose periods have a small common multiple, is the floor."""
    whole = math.lcm(len(floor), len(floor[0]), *[stripe[0] for stripe, _ in heap])
    box = brute.box(2, whole)
    return all(brute.tint(heap, (x, y)) == floor[x % len(floor)][y % len(floor[0])] for x, y in box)


def made_floor(maker, sides, greatest=10 ** 12 - 1):
    return tuple(tuple(maker.rand.randrange(-greatest, greatest + 1) for _ in range(sides[1])) for _ in range(sides[0]))


def made_heap(maker, sides, pairs, greatest=9):
    """A heap whose stripes fit the sides."""
    tints = {maker.rand.choice(fitting_stripes(sides)): maker.rand.choice((1, -1)) * maker.rand.randrange(1, greatest)
             for _ in range(pairs)}
    return brute.heap_of(tints)


def times(floor, number):
    return tuple(tuple(number * tint for tint in row) for row in floor)


class Examples(unittest.TestCase):
    def test_a_fourth_of_the_floor(self):
        halves = (((1, (0, 0), 0), (-1, 2)), ((2, (0, 1), 0), (1, 2)), ((2, (1, 0), 0), (1, 2)), ((2, (1, 1), 0), (1, 2)))
        self.assertEqual(plain_sum(FLOOR), halves)
        self.assertEqual(least_multiple(FLOOR), 2)
        self.assertEqual(least_heap(FLOOR), tuple((stripe, 2 * top // bottom) for stripe, (top, bottom) in halves))
        self.assertIs(floor_holds(FLOOR, ("bar", 2, ((1, 1), (1, 1)))), True)
        self.assertEqual(judge_floor(FLOOR)[0], "bar")

    def test_a_floor_that_is_a_look(self):
        floor = ((1, 0), (1, 0))
        self.assertEqual(judge_floor(floor)[0], "heap")
        self.assertIs(floor_holds(floor, ("heap", (((2, (0, 1), 0), 1),))), True)
        self.assertIs(floor_holds(floor, judge_floor(floor)), True)

    def test_fitting_levels(self):
        self.assertEqual(fitting_levels((2, 2)), ((1, (0, 0)), (2, (0, 1)), (2, (1, 0)), (2, (1, 1))))
        self.assertEqual(fitting_levels((1, 3)), ((1, (0, 0)), (3, (0, 1))))

    def test_floor_of(self):
        self.assertEqual(floor_of((((2, (1, 1), 0), 5),), (2, 2)), ((5, 0), (0, 5)))
        self.assertIsNone(floor_of((((2, (1, 1), 0), 5),), (2, 3)))

    def test_arguments_by_name(self):
        self.assertIs(is_floor(thing=FLOOR), True)
        self.assertEqual(fitting_levels(sides=(1, 3)), ((1, (0, 0)), (3, (0, 1))))
        self.assertEqual(floor_of(sides=(2, 2), heap=()), ((0, 0), (0, 0)))
        self.assertEqual(plain_sum(floor=((3,),)), (((1, (0, 0), 0), (3, 1)),))
        self.assertEqual(least_multiple(floor=FLOOR), 2)
        self.assertEqual(least_heap(floor=((3,),)), (((1, (0, 0), 0), 3),))
        self.assertEqual(judge_floor(floor=((3,),)), ("heap", (((1, (0, 0), 0), 3),)))
        self.assertIs(floor_holds(thing=("heap", ()), floor=((0,),)), True)


class Values(unittest.TestCase):
    def test_floors(self):
        for sides in SIDES:
            self.assertIs(is_floor(floor_by(lambda cell: cell[0] - cell[1], sides)), True, sides)
        for right in (((0,),), ((-10 ** 12,),), ((10 ** 99, 0),)):
            self.assertIs(is_floor(right), True)
        for wrong in NO_FLOORS:
            self.assertIs(is_floor(wrong), False, wrong)
        for right in (FLOOR, ((5,),), ((1, 2, 3),), ((1,), (2,))):
            for thing in brute.spoiled(right):
                self.assertIs(is_floor(thing), told_floor(thing), thing)
        for a, b in itertools.product(range(40), repeat=2):
            thing = ((0,) * b,) * a
            self.assertIs(is_floor(thing), (a, b) in SIDES, (a, b))

    def test_errors(self):
        calls = (plain_sum, least_multiple, least_heap, judge_floor, lambda thing: floor_holds(thing, ("heap", ())),
                 lambda thing: floor_holds(thing, None))
        for wrong in NO_FLOORS:
            for call in calls:
                with self.assertRaises(BadFloor) as caught:
                    call(wrong)
                self.assertIs(caught.exception.thing, wrong)

    def test_sides(self):
        for wrong in NO_SIDES:
            for call in (fitting_levels, lambda sides: floor_of((), sides), lambda sides: floor_of(ENDLESS[:0], sides)):
                with self.assertRaises(BadFloor) as caught:
                    call(wrong)
                self.assertIs(caught.exception.thing, wrong)
        for a, b in itertools.product(range(-1, 40), repeat=2):
            if (a, b) not in SIDES:
                with self.assertRaises(BadFloor):
                    fitting_levels((a, b))


class Fitting(unittest.TestCase):
    def test_all_sides(self):
        for sides in SIDES:
            levels = fitting_levels(sides)
            self.assertEqual(list(levels), sorted(set(levels)))
            plain = 0
            for m, c in levels:
                self.assertTrue(brute.told_normal((m, c, 0)) and fits((m, c), sides))
                plain += math.prod((p - 1) * q // p for p, q in brute.powers_of(m))
            # The plain stripes that fit are as many as the cells.
            self.assertEqual(plain, sides[0] * sides[1])

    def test_all_levels_are_there(self):
        for sides in FEW_SIDES:
            told = sorted({stripe[:2] for stripe in fitting_stripes(sides) if brute.told_normal(stripe)})
            self.assertEqual(fitting_levels(sides), tuple(told))


class FloorsOfHeaps(unittest.TestCase):
    def test_random_heaps(self):
        maker = brute.Maker(501)
        seen = []
        for sides in FEW_SIDES * 12:
            periods = sorted({stripe[0] for stripe in fitting_stripes(sides)}) * 3 + [2, 3]
            heap = maker.heap(2, periods, maker.rand.randrange(4), 10 ** 12)
            whole = math.lcm(*sides, *[stripe[0] for stripe, _ in heap])
            floor = floor_by(lambda cell: brute.tint(heap, cell), sides)
            fit = all(brute.tint(heap, (x, y)) == floor[x % sides[0]][y % sides[1]] for x, y in brute.box(2, whole))
            self.assertEqual(floor_of(heap, sides), floor if fit else None)
            seen.append(fit)
        self.assertGreater(seen.count(True), 20)
        self.assertGreater(seen.count(False), 20)

    def test_heaps_whose_stripes_fit(self):
        maker = brute.Maker(502)
        for sides in MORE_SIDES:
            heap = made_heap(maker, sides, 24)
            floor = floor_of(heap, sides)
            self.assertEqual(floor, floor_by(lambda cell: brute.tint(heap, cell), sides))
            self.assertEqual(judge_floor(floor)[0], "heap")
            self.assertIs(floor_holds(floor, ("heap", heap)), True)
            self.assertEqual(floor_of(least_heap(floor), sides), floor)

    def test_stripes_that_fit_only_together(self):
        halves = (((6, (1, 1), 0), 1), ((6, (1, 1), 3), 1))
        self.assertEqual(floor_of(halves, (3, 3)), ((1, 0, 0), (0, 0, 1), (0, 1, 0)))
        self.assertIsNone(floor_of(halves[:1], (3, 3)))
        self.assertEqual(floor_of(halves[:1], (6, 6))[1], (0, 0, 0, 0, 0, 1))
        nothing = (((1, (0, 0), 0), 1), ((2, (1, 0), 0), -1), ((2, (1, 0), 1), -1))
        self.assertEqual(floor_of(nothing, (1, 1)), ((0,),))
        self.assertEqual(floor_of((), (2, 3)), ((0, 0, 0), (0, 0, 0)))
        self.assertIsNone(floor_of((((2 ** 132, (1, 1), 0), 1),), (4, 8)))

    def test_errors_in_their_order(self):
        for wrong in brute.NO_HEAPS + [(((6, (1,), 2), 1),), (((1, (0, 0, 0), 0), 1),)]:
            for sides in ((2, 2), None, (31, 1)):
                with self.assertRaises(BadHeap) as caught:
                    floor_of(wrong, sides)
                self.assertIs(caught.exception.thing, wrong)


class PlainSums(unittest.TestCase):
    def check(self, floor, every=False):
        sides = (len(floor), len(floor[0]))
        pairs = plain_sum(floor)
        self.assertIsInstance(pairs, tuple)
        stripes = [stripe for stripe, _ in pairs]
        self.assertEqual(stripes, sorted(set(stripes)))
        for stripe, (top, bottom) in pairs:
            self.assertTrue(brute.told_plain(stripe) and fits(stripe, sides))
            self.assertTrue(top != 0 and bottom > 0 and math.gcd(top, bottom) == 1)
        for cell in cells(sides):
            tint = sum(Fraction(*part) for stripe, part in pairs if brute.on(stripe, cell))
            self.assertEqual(tint, floor[cell[0]][cell[1]])
        if every:
            plain = [stripe for stripe in fitting_stripes(sides) if brute.told_plain(stripe)]
            rows = [[int(brute.on(stripe, cell)) for cell in cells(sides)] for stripe in plain]
            parts = brute.solved(rows, [floor[x][y] for x, y in cells(sides)])
            told = [(s, (part.numerator, part.denominator)) for s, part in zip(plain, parts) if part != 0]
            self.assertEqual(pairs, tuple(sorted(told)))
        return pairs

    def test_just_one_sum_is_right(self):
        maker = brute.Maker(503)
        for sides in FEW_SIDES:
            self.check(made_floor(maker, sides), True)
            self.check(made_floor(maker, sides, 1), True)

    def test_all_sides(self):
        maker = brute.Maker(504)
        for sides in SIDES:
            self.check(made_floor(maker, sides))

    def test_single_cells(self):
        for sides in FEW_SIDES + [(6, 6), (5, 5)]:
            for spot in cells(sides):
                self.check(floor_by(lambda cell: int(cell == spot), sides))

    def test_floors_of_zeros_and_of_one_cell(self):
        for sides in SIDES:
            nothing = floor_by(lambda cell: 0, sides)
            self.assertEqual(plain_sum(nothing), ())
            self.assertEqual(least_multiple(nothing), 1)
            self.assertEqual(judge_floor(nothing), ("heap", ()))
            even = floor_by(lambda cell: -7, sides)
            self.assertEqual(plain_sum(even), (((1, (0, 0), 0), (-7, 1)),))
        self.assertEqual(least_heap(((5,),)), (((1, (0, 0), 0), 5),))


class LeastMultiples(unittest.TestCase):
    def check(self, floor):
        n = least_multiple(floor)
        heap = least_heap(floor)
        sides = (len(floor), len(floor[0]))
        self.assertEqual(floor_of(heap, sides), times(floor, n))
        self.assertIs(is_plain(heap), True)
        self.assertTrue(brute.told_heap(heap))
        self.assertEqual(math.gcd(n, *[tint for _, tint in heap]), 1)
        self.assertEqual(n, math.lcm(1, *[bottom for _, (_, bottom) in plain_sum(floor)]))
        self.assertTrue(all(level in fitting_levels(sides) for level in levels_of(heap)))
        return n

    def test_all_sides(self):
        maker = brute.Maker(505)
        for sides in SIDES:
            self.check(made_floor(maker, sides))

    def test_exactly_the_multiples_of_the_least_one_are_looks(self):
        maker = brute.Maker(506)
        least = []
        for sides in FEW_SIDES * 4:
            floor = made_floor(maker, sides, 2)
            n = self.check(floor)
            least.append(n)
            for number in range(1, 13):
                self.assertEqual(judge_floor(times(floor, number))[0] == "heap", number % n == 0)
                self.assertEqual(least_multiple(times(floor, number)), n // math.gcd(n, number))
        self.assertEqual(set(least), {1, 2, 3})

    def test_single_cells_by_hand(self):
        # One cell of p by p is a p-th of the stripes through it, less a part of all cells.
        for p in (2, 3, 5):
            self.assertEqual(least_multiple(floor_by(lambda cell: int(cell == (0, 0)), (p, p))), p)
        for side in (1, 2, 3, 12, 29, 36):
            self.assertEqual(least_multiple(floor_by(lambda cell: int(cell[0] == 0), (side, 1))), 1)
            self.assertEqual(least_multiple(floor_by(lambda cell: int(cell[1] == 0), (1, side))), 1)


class Papers(unittest.TestCase):
    def check(self, floor):
        paper = judge_floor(floor)
        self.assertEqual(judge_floor(floor), paper)
        self.assertIs(floor_holds(floor, paper), True)
        if least_multiple(floor) == 1:
            self.assertEqual((len(paper), paper[0]), (2, "heap"))
            self.assertTrue(told_look(floor, paper[1]))
        else:
            self.assertEqual((len(paper), paper[0]), (3, "bar"))
            self.assertTrue(told_bar(floor, *paper[1:]))
            self.assertLess(max(abs(number) for row in paper[2] for number in row), 10 ** 30)
        return paper

    def test_all_sides(self):
        maker = brute.Maker(507)
        kinds = []
        for sides in SIDES:
            floor = made_floor(maker, sides)
            kinds.append(self.check(floor)[0])
            kinds.append(self.check(times(floor, least_multiple(floor)))[0])
        self.assertGreater(kinds.count("bar"), 20)
        self.assertGreater(kinds.count("heap"), 20)

    def test_single_cells(self):
        for sides in ((2, 2), (3, 3), (4, 2), (2, 6), (5, 5), (6, 6)):
            for spot in ((0, 0), (sides[0] - 1, sides[1] - 1), (1, 0)):
                self.assertEqual(self.check(floor_by(lambda cell: int(cell == spot), sides))[0], "bar")

    def test_bars_by_their_words(self):
        maker = brute.Maker(508)
        right = []
        for sides in ((2, 2), (2, 4), (3, 3), (1, 6), (4, 4)) * 60:
            floor = made_floor(maker, sides, 2)
            q = maker.rand.choice((2, 2, 3, 4))
            weights = made_floor(maker, sides, 1)
            if maker.rand.randrange(2):
                weights = floor_by(lambda cell: 1 + q * weights[cell[0]][cell[1]], sides)
            right.append(told_bar(floor, q, weights))
            self.assertIs(floor_holds(floor, ("bar", q, weights)), right[-1], (floor, q, weights))
        self.assertGreater(right.count(True), 10)
        self.assertGreater(right.count(False), 10)

    def test_heaps_told_otherwise(self):
        floor = ((1, 0), (1, 0))
        for heap in ((((2, (0, 1), 0), 1),), (((1, (0, 0), 0), 1), ((2, (0, 1), 1), -1)),
                     (((6, (0, 1), 0), 1), ((6, (0, 1), 2), 1), ((6, (0, 5), 2), 1))):
            self.assertIs(floor_holds(floor, ("heap", heap)), True, heap)
        for heap in ((((2, (0, 1), 1), 1),), (((2, (0, 1), 0), 2),), (), (((2, (1,), 0), 1),), (((2, (0, 1, 0), 0), 1),),
                     (((4, (0, 1), 0), 1),), (((4, (0, 1), 0), 1), ((4, (0, 1), 2), 2)), ENDLESS):
            self.assertIs(floor_holds(floor, ("heap", heap)), False, heap)
        self.assertIs(floor_holds(FLOOR, ("heap", least_heap(FLOOR))), False)
        walk = (((1, (0,), 0), 1), ((2, (1,), 0), -1), ((2, (1,), 1), -1))
        self.assertIs(floor_holds(((0, 0),), ("heap", walk)), False)
        self.assertIs(floor_holds(((0, 0),), ("heap", ())), True)
        self.assertIs(floor_holds(((0, 1),), ("heap", ())), False)

    def test_heaps_of_any_size(self):
        stripe = ENDLESS[0][0]
        m, c, r = (210 ** 40, (1, 0), 210 ** 40 - 1)
        zero = {(m, c, r): 1}
        zero.update({(210 * m, c, r + e * m): -1 for e in range(210)})
        for floor, heap in ((((0,),), {}), (((1, 0), (1, 0)), {(2, (0, 1), 0): 1}), (((1, 2, 3),), {})):
            told = brute.heap_of({**zero, **heap})
            self.assertIs(floor_holds(floor, ("heap", told)), floor != ((1, 2, 3),))
            self.assertIs(floor_holds(floor, ("heap", told[1:])), False)
            self.assertIs(floor_holds(floor, ("heap", brute.heap_of({**zero, **heap, stripe: 5}))), False)
        self.assertIs(floor_holds(((0,),), ("heap", ENDLESS)), False)

    def test_papers_wrong_at_one_place(self):
        for floor in (FLOOR, ((1, 0), (1, 0)), ((2, 1, 0),), ((0, 0), (0, 3)), ((0, 1), (1, 0)), ((3,),)):
            paper = judge_floor(floor)
            for thing in brute.spoiled(paper):
                right = False
                if isinstance(thing, tuple) and len(thing) == 2 and thing[0] == "heap" and brute.told_heap(thing[1]):
                    right = all(len(stripe[1]) == 2 for stripe, _ in thing[1]) and told_look(floor, thing[1])
                if isinstance(thing, tuple) and len(thing) == 3 and thing[0] == "bar":
                    right = told_bar(floor, *thing[1:])
                self.assertIs(floor_holds(floor, thing), right, (floor, thing))

    def test_any_values(self):
        for floor in (FLOOR, ((0,),), ((1, 0), (1, 0))):
            for thing in brute.NO_HEAPS + NO_FLOORS + ["heap", ("heap",), ("bar", 2), ("bars", 2, FLOOR), ["heap", ()]]:
                self.assertIs(floor_holds(floor, thing), False)
            for told in brute.NO_HEAPS:
                self.assertIs(floor_holds(floor, ("heap", told)), False)
            for told in NO_FLOORS:
                self.assertIs(floor_holds(floor, ("bar", 2, told)), False)
        ones = ((1, 1), (1, 1))
        for q in brute.NO_PERIODS + [1, 4, 3, "2", 2 ** 99, -2, (2,)]:
            self.assertIs(floor_holds(FLOOR, ("bar", q, ones)), False, q)
        for weights in (((True, 1), (1, 1)), ([1, 1], (1, 1)), [(1, 1), (1, 1)], ((1, 1),), ((1,), (1,)), ((1, 1, 1),) * 2):
            self.assertIs(floor_holds(FLOOR, ("bar", 2, weights)), False)
        self.assertIs(floor_holds(FLOOR, ("bar", 2, ((1 + 2 * 10 ** 98, 1 - 10 ** 99), (-1, 1)))), True)
        big = 10 ** 29
        self.assertIs(floor_holds(FLOOR, ("bar", 2 * big, ((big, big), (big, big)))), True)

    def test_numbers_at_the_ends_of_the_limits(self):
        most = 10 ** 12 - 1
        for sides in ((6, 6), (36, 1), (5, 5), (4, 8)):
            floor = floor_by(lambda cell: most * (-1) ** (cell[0] + cell[1]) - cell[0] * cell[1], sides)
            self.check(floor)
            self.check(times(floor, sides[0] * sides[1]))


class OnePrime(unittest.TestCase):
    """[9.5]: sides that are one prime."""

    def test_weights_of_polynomials(self):
        for p in (2, 3, 5):
            sides = (p, p)
            for i, j in itertools.product(range(p), repeat=2):
                weights = floor_by(lambda cell: cell[0] ** i * cell[1] ** j, sides)
                for spot in cells(sides):
                    floor = floor_by(lambda cell: int(cell == spot), sides)
                    right = i + j <= p - 2 and weights[spot[0]][spot[1]] % p != 0
                    self.assertIs(floor_holds(floor, ("bar", p, weights)), right)

    def test_all_weights_by_two_and_three(self):
        for p, corner in ((2, (0, 1)), (3, (0, 1))):
            polynomials = set()
            degrees = [(i, j) for i in range(p) for j in range(p) if i + j <= p - 2]
            for factors in itertools.product(range(p), repeat=len(degrees)):
                polynomials.add(floor_by(lambda cell: sum(
                    factor * cell[0] ** i * cell[1] ** j for factor, (i, j) in zip(factors, degrees)) % p, (p, p)))
            spots = cells((p, p))
            for numbers in itertools.product(range(p), repeat=p * p):
                weights = tuple(tuple(numbers[p * x:p * x + p]) for x in range(p))
                if p == 2 or sum(numbers) % 7 == 0:
                    spot = next((spot for spot in spots if weights[spot[0]][spot[1]]), corner)
                    floor = floor_by(lambda cell: int(cell == spot), (p, p))
                    right = weights in polynomials and any(numbers)
                    self.assertIs(floor_holds(floor, ("bar", p, weights)), right)

    def test_floors_that_differ_from_looks_by_multiples_of_the_prime(self):
        maker = brute.Maker(509)
        for p in (2, 3, 5):
            sides = (p, p)
            powers = [(i, j) for i in range(p) for j in range(p) if i + j <= p - 2]
            for _ in range(20):
                look = floor_of(made_heap(maker, sides, 6), sides)
                floor = floor_by(lambda cell: look[cell[0]][cell[1]] + p * maker.rand.randrange(-9, 9), sides)
                for i, j in powers:
                    weights = floor_by(lambda cell: cell[0] ** i * cell[1] ** j, sides)
                    self.assertIs(floor_holds(floor, ("bar", p, weights)), False)


class Interface(unittest.TestCase):
    def test_defined_in_its_file(self):
        for name in ("is_floor", "fitting_levels", "floor_of", "plain_sum", "least_multiple", "least_heap", "judge_floor",
                     "floor_holds"):
            self.assertEqual(getattr(floors, name).__module__, "slantpanes.floors")


if __name__ == "__main__":
    unittest.main()
