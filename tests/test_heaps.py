"""Part 2: heaps, as far as looks need them."""

import unittest

import brute
from slantpanes import heaps
from slantpanes.errors import BadCell, BadHeap
from slantpanes.heaps import is_heap, tint_at

RIGHT = [
    (), (((1, (0,), 0), 1),), (((1, (0, 0, 0), 0), -10 ** 39),), (((2, (1, 0), 0), 1), ((2, (1, 0), 1), 1)),
    (((3, (1, 2), 0), 1), ((3, (2, 1), 0), 1)), (((2, (1, 1), 0), 5), ((3, (0, 1), 2), -5), ((10 ** 39, (7, 3), 1), 2)),
    tuple(((23, (1, 5), r), 10 ** 39 + r) for r in range(23)) + (((29, (0, 1), 28), -1),),
]


class Heaps(unittest.TestCase):
    def test_right_ones(self):
        for heap in RIGHT:
            self.assertIs(is_heap(heap), True, heap)
        self.assertIs(is_heap(thing=()), True)

    def test_longer_ones_are_heaps_too(self):
        self.assertIs(is_heap(tuple(((210, (1, 0), r), 1) for r in range(200))), True)
        self.assertIs(is_heap(tuple(((210, (1, 0), r), r) for r in range(200))), False)

    def test_wrong_ones(self):
        for wrong in brute.NO_HEAPS:
            self.assertIs(is_heap(wrong), False, wrong)

    def test_wrong_at_one_place(self):
        for heap in RIGHT[:6]:
            for other in brute.spoiled(heap):
                self.assertIs(is_heap(other), brute.told_heap(other), other)

    def test_defined_in_its_file(self):
        self.assertEqual(is_heap.__module__, heaps.__name__)
        self.assertEqual(tint_at.__module__, heaps.__name__)


class Tints(unittest.TestCase):
    def test_tints_are_added_up(self):
        maker = brute.Maker(1)
        for _ in range(40):
            breadth = maker.rand.randrange(1, 4)
            heap = maker.heap(breadth, [1, 2, 3, 4, 6], 8, 10 ** 39)
            for cell in brute.box(breadth, 4):
                self.assertEqual(tint_at(heap, cell), brute.tint(heap, cell))
                shifted = tuple(number - 12 * 10 ** 58 for number in cell)
                self.assertEqual(tint_at(cell=shifted, heap=heap), brute.tint(heap, cell))

    def test_empty_heap_has_no_tint_anywhere(self):
        for cell in [(0,), (1, 2), (-10 ** 59, 0, 3)]:
            self.assertEqual(tint_at((), cell), 0)

    def test_errors_in_their_order(self):
        for wrong in brute.NO_HEAPS:
            for cell in [(0, 0), (1,), "no cell"]:
                with self.assertRaises(BadHeap) as caught:
                    tint_at(wrong, cell)
                self.assertIs(caught.exception.thing, wrong)
        for heap in RIGHT:
            others = [(0,) * k for k in (1, 2, 3) if heap and k != len(heap[0][0][1])]
            for wrong in brute.NO_CELLS + others:
                with self.assertRaises(BadCell) as caught:
                    tint_at(heap, wrong)
                self.assertIs(caught.exception.thing, wrong)


if __name__ == "__main__":
    unittest.main()
