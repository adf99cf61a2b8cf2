"""Part 10: lamp floors, with part 9: sides that are one prime."""

import itertools
import unittest

import brute
from slantpanes import lampfloors
from slantpanes.floors import floor_holds, least_multiple
from slantpanes.lampfloors import judge_lamp_floor, lamp_floor_holds
from slantpanes.lamps import lamp_at, lamp_degree

CORNER = ((1, 0), (0, 0))
COLUMN = ((0, 1), (0, 1))
NO_LAMP_FLOORS = brute.NOTHING_OF_ALL + [
    (), ((),), ((0, 1),), ((0, 1), (0,)), ((0, 1), (0, 1), (0, 1)), ((0, 1, 1), (0, 1, 1)), ((0, 2), (0, 1)), ((0, -1), (0, 1)),
    ((0, True), (0, 1)), ((False, 0), (0, 0)), [(0, 1), (0, 1)], ([0, 1], [0, 1]), ((0, 1), [0, 1]), ((0, 1), None), (None, (0, 1)),
    ((0, "1"), (0, 1)), ((0, (1,)), (0, 1)), (0, 1), 5, "0101", ((0, 10 ** 99), (0, 1)), ((0, brute.YARD), (0, 1)),
]
NO_FLOOR_PRIMES = brute.NOTHING_OF_ALL + [0, 1, 4, 6, 7, 11, -2, 10 ** 99, "2", (2,), [2], ()]


def cells(p):
    return list(itertools.product(range(p), repeat=2))


def floor_by(rule, p):
    return tuple(tuple(rule(x, y) % p for y in range(p)) for x in range(p))


def all_stripes(p):
    """The stripe of all cells, and those of the period p, written in all ways."""
    return [(1, (0, 0), 0)] + brute.stripes_of(p, 2)


def told_paper(floor, p, thing):
    """Right papers of [10.5] by its words."""
    if not isinstance(thing, tuple) or len(thing) != 2:
        return False
    if thing[0] == "heap":
        if not brute.told_heap(thing[1]) or any(len(s[1]) != 2 or p % s[0] != 0 for s, _ in thing[1]):
            return False
        return all(brute.tint(thing[1], (x, y)) % p == floor[x][y] for x, y in cells(p))
    weights = thing[1]
    if thing[0] != "bar" or not isinstance(weights, tuple) or len(weights) != p:
        return False
    if not all(isinstance(row, tuple) and len(row) == p and all(brute.is_whole(w) for w in row) for row in weights):
        return False
    for stripe in all_stripes(p):
        if sum(weights[x][y] for x, y in cells(p) if brute.on(stripe, (x, y))) % p != 0:
            return False
    return sum(weights[x][y] * floor[x][y] for x, y in cells(p)) % p != 0


def shining_heap(maker, p, pairs):
    tints = {maker.rand.choice(all_stripes(p)): maker.rand.randrange(-9, 9) for _ in range(pairs)}
    return brute.heap_of(tints)


class Examples(unittest.TestCase):
    def test_by_two(self):
        self.assertIs(lamp_floor_holds(CORNER, 2, ("bar", ((1, 1), (1, 1)))), True)
        self.assertEqual(judge_lamp_floor(CORNER, 2)[0], "bar")
        self.assertEqual(judge_lamp_floor(COLUMN, 2)[0], "heap")
        self.assertIs(lamp_floor_holds(COLUMN, 2, ("heap", (((2, (0, 1), 1), 1),))), True)

    def test_arguments_by_name(self):
        self.assertEqual(judge_lamp_floor(p=2, floor=COLUMN)[0], "heap")
        self.assertIs(lamp_floor_holds(thing=("heap", ()), p=3, floor=((0, 0, 0),) * 3), True)

    def test_defined_in_its_file(self):
        for name in ("judge_lamp_floor", "lamp_floor_holds"):
            self.assertEqual(getattr(lampfloors, name).__module__, "slantpanes.lampfloors")


class LampFloors(unittest.TestCase):
    def check(self, floor, p):
        paper = judge_lamp_floor(floor, p)
        self.assertEqual(judge_lamp_floor(floor, p), paper)
        self.assertTrue(told_paper(floor, p, paper), (floor, p, paper))
        self.assertIs(lamp_floor_holds(floor, p, paper), True)
        return paper

    def test_all_floors_by_two(self):
        kinds = []
        for told in itertools.product((0, 1), repeat=4):
            floor = (told[:2], told[2:])
            kinds.append(self.check(floor, 2)[0])
            self.assertEqual(kinds[-1], "bar" if sum(told) % 2 else "heap")
        self.assertEqual(kinds.count("bar"), 8)

    def test_degrees_tell_which_are_heaps(self):
        # C(x, k) C(y, j) has the degree k + j; a floor is that of a heap up to p - 1.
        maker = brute.Maker(701)
        for p in (2, 3, 5):
            for k, j in itertools.product(range(p), repeat=2):
                def rule(x, y, k=k, j=j):
                    return brute_choose(x, k) * brute_choose(y, j)
                floor = floor_by(rule, p)
                self.assertEqual(self.check(floor, p)[0], "heap" if k + j <= p - 1 else "bar")
                low = shining_heap(maker, p, 4)
                more = floor_by(lambda x, y, rule=rule, low=low: rule(x, y) + brute.tint(low, (x, y)), p)
                self.assertEqual(self.check(more, p)[0], "heap" if k + j <= p - 1 else "bar")

    def test_lamps_of_heaps(self):
        maker = brute.Maker(702)
        for p in (2, 3, 5):
            for _ in range(40):
                heap = shining_heap(maker, p, maker.rand.randrange(8))
                floor = tuple(tuple(lamp_at(heap, p, (x, y)) for y in range(p)) for x in range(p))
                self.assertLessEqual(lamp_degree(heap, p), p - 1)
                paper = self.check(floor, p)
                self.assertEqual(paper[0], "heap")
                self.assertIs(lamp_floor_holds(floor, p, ("heap", heap)), True)
                spot = maker.rand.choice(cells(p))
                other = floor_by(lambda x, y: floor[x][y] + ((x, y) == spot), p)
                # One cell alone has the degree 2 p - 2, so of two floors that part at one cell one is no heap.
                self.assertEqual(self.check(other, p)[0], "bar")
                self.assertIs(lamp_floor_holds(other, p, ("heap", heap)), False)

    def test_random_floors(self):
        maker = brute.Maker(703)
        for p in (2, 3, 5):
            kinds = [self.check(floor_by(lambda x, y: maker.rand.randrange(p), p), p)[0] for _ in range(30)]
            self.assertIn("bar", kinds)

    def test_the_dark_floor(self):
        for p in (2, 3, 5):
            dark = ((0,) * p,) * p
            self.assertEqual(self.check(dark, p)[0], "heap")
            self.assertIs(lamp_floor_holds(dark, p, ("heap", ())), True)
            self.assertIs(lamp_floor_holds(dark, p, ("heap", (((p, (1, 0), 0), p),))), True)

    def test_wrong_papers(self):
        maker = brute.Maker(704)
        for p in (2, 3, 5):
            for _ in range(6 if p < 5 else 2):
                heap = shining_heap(maker, p, 2)
                shining = floor_by(lambda x, y: brute.tint(heap, (x, y)), p)
                for floor in (shining, floor_by(lambda x, y: maker.rand.randrange(p), p)):
                    for thing in brute.spoiled(judge_lamp_floor(floor, p)):
                        self.assertIs(lamp_floor_holds(floor, p, thing), told_paper(floor, p, thing), (floor, p, thing))
        for thing in NO_LAMP_FLOORS + brute.NO_HEAPS + ["bar", ("bar",), ["bar", ((1, 1), (1, 1))], ("bar", 2, ((1, 1), (1, 1)))]:
            self.assertIs(lamp_floor_holds(CORNER, 2, thing), False)
            if not told_paper(CORNER, 2, ("bar", thing)):
                self.assertIs(lamp_floor_holds(CORNER, 2, ("bar", thing)), False)
            self.assertIs(lamp_floor_holds(COLUMN, 2, ("heap", thing)), False)
        self.assertIs(lamp_floor_holds(CORNER, 2, ("bar", ((10 ** 99 + 1, 1), (-1, 3)))), True)
        for weights in (((True, 1), (1, 1)), ((1, 1), [1, 1]), ((1, 0), (1, 1)), ((2, 2), (2, 2)), ((1, 1),), ((1, 1, 1),) * 2):
            self.assertIs(lamp_floor_holds(CORNER, 2, ("bar", weights)), False)
        for heap in ((((4, (0, 2), 2), 1),), (((4, (2, 1), 1), 1),), (((3, (0, 1), 1), 1),), (((2, (0, 1), 0), 1),),
                     (((2, (1,), 1), 1),), (((2, (0, 1, 0), 1), 1),), ()):
            self.assertIs(lamp_floor_holds(COLUMN, 2, ("heap", heap)), False)

    def test_errors_in_their_order(self):
        for call in (judge_lamp_floor, lambda floor, p: lamp_floor_holds(floor, p, ("heap", ()))):
            for wrong in NO_FLOOR_PRIMES:
                for floor in (CORNER, None):
                    name, told = brute.raised(call, floor, wrong)
                    self.assertEqual(name, "BadPrime")
                    self.assertIs(told["thing"], wrong)
            for wrong in NO_LAMP_FLOORS:
                name, told = brute.raised(call, wrong, 2)
                self.assertEqual(name, "BadFloor")
                self.assertIs(told["thing"], wrong)
            for floor, p in ((CORNER, 3), (((0, 0, 0),) * 3, 2), (((0, 0, 3),) * 3, 3), (((0,) * 5,) * 5, 3), (((5,) * 5,) * 5, 5)):
                self.assertEqual(brute.raised(call, floor, p), ("BadFloor", {"thing": floor}))


def brute_choose(x, k):
    number = 1
    for j in range(k):
        number = number * (x - j) // (j + 1)
    return number


class SidesThatAreOnePrime(unittest.TestCase):
    """[9.5]: floors with both sides p, which differ from the look of a heap by multiples of p alone."""

    def test_weights_are_values_of_polynomials(self):
        # All weights from 0 to p - 1 whose sums along all stripes p divides, counted, and those of low degree.
        for p in (2, 3):
            right = set()
            for told in itertools.product(range(p), repeat=p * p):
                weights = {cell: w for cell, w in zip(cells(p), told)}
                if all(sum(w for cell, w in weights.items() if brute.on(s, cell)) % p == 0 for s in all_stripes(p)):
                    right.add(told)
            powers = [(k, j) for k in range(p - 1) for j in range(p - 1 - k)]
            values = {
                tuple(sum(a * x ** k * y ** j for a, (k, j) in zip(some, powers)) % p for x, y in cells(p))
                for some in itertools.product(range(p), repeat=len(powers))
            }
            self.assertEqual(right, values)

    def test_floors_as_lamp_floors(self):
        maker = brute.Maker(705)
        for p in (2, 3, 5):
            for trial in range(30):
                heap = shining_heap(maker, p, 3)
                floor = tuple(tuple(brute.tint(heap, (x, y)) for y in range(p)) for x in range(p))
                if trial % 2:
                    floor = tuple(tuple(maker.rand.randrange(-9, 9) for _ in range(p)) for _ in range(p))
                lamps = tuple(tuple(tint % p for tint in row) for row in floor)
                paper = judge_lamp_floor(lamps, p)
                powers = [(k, j) for k in range(p - 1) for j in range(p - 1 - k)]
                sums = [sum(x ** k * y ** j * floor[x][y] for x, y in cells(p)) % p for k, j in powers]
                self.assertEqual(paper[0] == "heap", not any(sums))
                if paper[0] == "bar":
                    # The same weights bar the floor itself, by q = p.
                    self.assertIs(floor_holds(floor, ("bar", p, paper[1])), True)
                    self.assertEqual(least_multiple(floor) % p, 0)


if __name__ == "__main__":
    unittest.main()
