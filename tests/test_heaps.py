"""Part 2: heaps."""

import unittest

import brute
from slantpanes import heaps
from slantpanes.errors import BadCell, BadHeap
from slantpanes.heaps import added, is_heap, taken, times, tint_at

RIGHT = [
    (), (((1, (0,), 0), 1),), (((1, (0, 0, 0), 0), -10 ** 39),), (((2, (1, 0), 0), 1), ((2, (1, 0), 1), 1)),
    (((3, (1, 2), 0), 1), ((3, (2, 1), 0), 1)), (((2, (1, 1), 0), 5), ((3, (0, 1), 2), -5), ((10 ** 39, (7, 3), 1), 2)),
    tuple(((23, (1, 5), r), 10 ** 39 + r) for r in range(23)) + (((29, (0, 1), 28), -1),),
]


class Heaps(unittest.TestCase):
    def test_right_ones(self):
        for heap in RIGHT:
            self.assertIs(is_heap(heap), True, heap)
        self.assertIs(is_heap(thing=()), True)

    def test_longer_ones_are_heaps_too(self):
        self.assertIs(is_heap(tuple(((210, (1, 0), r), 1) for r in range(200))), True)
        self.assertIs(is_heap(tuple(((210, (1, 0), r), r) for r in range(200))), False)

    def test_wrong_ones(self):
        for wrong in brute.NO_HEAPS:
            self.assertIs(is_heap(wrong), False, wrong)

    def test_wrong_at_one_place(self):
        for heap in RIGHT[:6]:
            for other in brute.spoiled(heap):
                self.assertIs(is_heap(other), brute.told_heap(other), other)

    def test_defined_in_its_file(self):
        self.assertEqual(is_heap.__module__, heaps.__name__)
        for call in (tint_at, added, taken, times):
            self.assertEqual(call.__module__, heaps.__name__)


class Tints(unittest.TestCase):
    def test_tints_are_added_up(self):
        maker = brute.Maker(1)
        for _ in range(40):
            breadth = maker.rand.randrange(1, 4)
            heap = maker.heap(breadth, [1, 2, 3, 4, 6], 8, 10 ** 39)
            for cell in brute.box(breadth, 4):
                self.assertEqual(tint_at(heap, cell), brute.tint(heap, cell))
                shifted = tuple(number - 12 * 10 ** 58 for number in cell)
                self.assertEqual(tint_at(cell=shifted, heap=heap), brute.tint(heap, cell))

    def test_empty_heap_has_no_tint_anywhere(self):
        for cell in [(0,), (1, 2), (-10 ** 59, 0, 3)]:
            self.assertEqual(tint_at((), cell), 0)

    def test_errors_in_their_order(self):
        for wrong in brute.NO_HEAPS:
            for cell in [(0, 0), (1,), "no cell"]:
                with self.assertRaises(BadHeap) as caught:
                    tint_at(wrong, cell)
                self.assertIs(caught.exception.thing, wrong)
        for heap in RIGHT:
            others = [(0,) * k for k in (1, 2, 3) if heap and k != len(heap[0][0][1])]
            for wrong in brute.NO_CELLS + others:
                with self.assertRaises(BadCell) as caught:
                    tint_at(heap, wrong)
                self.assertIs(caught.exception.thing, wrong)


class Sums(unittest.TestCase):
    """added, taken and times."""

    def test_tints_of_each_stripe(self):
        maker = brute.Maker(2)
        for trial in range(60):
            breadth = trial % 3 + 1
            one, other = maker.heap(breadth, [1, 2, 3], 6), maker.heap(breadth, [1, 2, 3], 6)
            for call, sign in ((added, 1), (taken, -1)):
                tints = dict(one)
                for stripe, tint in other:
                    tints[stripe] = tints.get(stripe, 0) + sign * tint
                self.assertEqual(call(one, other), brute.heap_of(tints))
                for cell in brute.box(breadth, 3):
                    wanted = brute.tint(one, cell) + sign * brute.tint(other, cell)
                    self.assertEqual(tint_at(call(one, other), cell), wanted)
            for number in (0, 1, -1, 7, -10 ** 40):
                wanted = brute.heap_of({stripe: tint * number for stripe, tint in one})
                self.assertEqual(times(one, number), wanted)
                self.assertEqual(times(times(one, 5), number), times(one, 5 * number))
            self.assertEqual(taken(one, one), ())
            self.assertEqual(added(one, one), times(one, 2))
            self.assertEqual(taken(added(one, other), other), one)

    def test_tints_that_become_0(self):
        stripe, other = (2, (1, 0), 0), (3, (1, 2), 1)
        self.assertEqual(added(((stripe, 2), (other, 5)), ((stripe, -2),)), ((other, 5),))
        self.assertEqual(taken(((stripe, 2), (other, 5)), ((stripe, 2), (other, 6))), ((other, -1),))
        self.assertEqual(added(((stripe, 2),), ((stripe, -2),)), ())

    def test_nothing_is_made_normal(self):
        one, other = (((5, (1, 2), 3), 1),), (((5, (2, 4), 1), 1),)
        self.assertEqual(added(one, other), one + other)
        self.assertEqual(taken(other, one), (((5, (1, 2), 3), -1), ((5, (2, 4), 1), 1)))
        self.assertEqual(times(other, 3), (((5, (2, 4), 1), 3),))

    def test_the_empty_heap(self):
        for heap in RIGHT:
            self.assertEqual((added(heap, ()), added((), heap), taken(heap, ()), times(heap, 1)), (heap,) * 4)
            self.assertEqual(taken((), heap), times(heap, -1))
            self.assertEqual(times(heap, 0), ())
        self.assertEqual((added((), ()), taken((), ()), times((), 5)), ((), (), ()))

    def test_more_than_24_pairs(self):
        one, other = (tuple(((29, (1, k), r), 1) for r in range(24)) for k in range(2))
        self.assertEqual(added(one, other), one + other)
        self.assertIs(is_heap(added(one, other)), True)
        self.assertEqual(taken(added(one, other), other), one)

    def test_arguments_by_name(self):
        heap = RIGHT[1]
        self.assertEqual(added(other=(), one=heap), heap)
        self.assertEqual(taken(other=heap, one=()), times(number=-1, heap=heap))

    def test_errors_in_their_order(self):
        for wrong in brute.NO_HEAPS:
            for call in (added, taken):
                for told in ((wrong, RIGHT[1]), (RIGHT[1], wrong), (wrong, wrong), (wrong, None)):
                    name, parameters = brute.raised(call, *told)
                    self.assertEqual(name, "BadHeap")
                    self.assertIs(parameters["thing"], wrong)
            name, parameters = brute.raised(times, wrong, None)
            self.assertEqual(name, "BadHeap")
            self.assertIs(parameters["thing"], wrong)
        for call in (added, taken):
            for one, other in ((RIGHT[1], RIGHT[2]), (RIGHT[3], RIGHT[2]), (RIGHT[2], RIGHT[4])):
                self.assertEqual(brute.raised(call, one, other), ("OtherBreadth", {"thing": other}))
        for wrong in brute.NOTHING_OF_ALL + [(), (1,), "2", [2]]:
            name, parameters = brute.raised(times, RIGHT[1], wrong)
            self.assertEqual(name, "BadCount")
            self.assertIs(parameters["thing"], wrong)


if __name__ == "__main__":
    unittest.main()
