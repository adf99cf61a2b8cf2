"""Part 3: moved looks and seen looks."""

import itertools
import unittest

import brute
from slantpanes import views
from slantpanes.looks import do_look_alike
from slantpanes.views import is_view, moved, seen, seen_of_seen, tints_along, turned_back

FIVE = (((5, (1, 2), 3), 7),)
SIX = (((6, (1, 2), 3), 1),)
TWO = (((3, (1, 1), 0), 2), ((4, (1, 0), 1), 5))
WALK = (((4, (1,), 1), 2), ((6, (5,), 0), -1))
ROOM = (((2, (1, 0, 1), 0), 1), ((3, (0, 1, 2), 2), 4))
GREAT = [2 ** 132, 210 ** 17, 6 ** 51, 29 ** 27, 10 ** 39]
NO_STEPS = brute.NOTHING_OF_ALL + [
    (), (1, 0), [(1, 0)], ([1, 0],), ((1, 0),) * 4, ((1,),), ((1, 0), (1,)), ((1, 0, 0),), ((1, 0), None), ((1, 0), 5),
    (5, (1, 0)), ((1, True),), ((1, 0), (False, 1)), ((1, "0"),), 0, ((),), (((1, 0),),), ((1, brute.YARD),), ((1, 0), brute.YARD),
]
NO_COUNTS = brute.NOTHING_OF_ALL + [-1, 401, 402, 10 ** 99, -10 ** 99, "3", (3,), [3]]


def cell_at(begin, steps, u):
    """The cell that a view shows as u."""
    return tuple(b + sum(u[k] * step[at] for k, step in enumerate(steps)) for at, b in enumerate(begin))


def made_view(maker, breadth, greatest=5):
    def numbers():
        return tuple(maker.rand.randrange(-greatest, greatest + 1) for _ in range(breadth))
    return numbers(), tuple(numbers() for _ in range(maker.rand.randrange(1, 4)))


def made_turn(maker, breadth, greatest=3):
    """Steps that turn the floor: sums of the unit steps, again and again."""
    steps = [[int(k == at) for k in range(breadth)] for at in range(breadth)]
    for _ in range(6):
        one, other = maker.rand.randrange(breadth), maker.rand.randrange(breadth)
        times = maker.rand.randrange(-greatest, greatest + 1)
        if one != other:
            steps[one] = [a + times * b for a, b in zip(steps[one], steps[other])]
        elif maker.rand.randrange(2):
            steps[one] = [-a for a in steps[one]]
    maker.rand.shuffle(steps)
    return tuple(tuple(step) for step in steps)


class Examples(unittest.TestCase):
    def test_moved(self):
        self.assertEqual(moved(FIVE, (1, 1)), (((5, (1, 2), 1), 7),))

    def test_seen(self):
        self.assertEqual(seen(SIX, (1, 0), ((2, 2),)), ())
        self.assertEqual(seen(SIX, (1, 1), ((2, 2),)), (((1, (0,), 0), 1),))

    def test_tints_along(self):
        self.assertEqual(tints_along(TWO, (0, 0), (1, 0), 6), (2, 5, 0, 2, 0, 5))

    def test_arguments_by_name(self):
        self.assertIs(is_view(steps=((1, 0),), begin=(0, 0)), True)
        self.assertEqual(moved(step=(1, 1), heap=FIVE), (((5, (1, 2), 1), 7),))
        self.assertEqual(seen(steps=((2, 2),), begin=(1, 0), heap=SIX), ())
        view = seen_of_seen(steps_two=((1,),), begin_two=(2,), steps=((1, 3),), begin=(5, 5))
        self.assertEqual(view, ((7, 11), ((1, 3),)))
        self.assertEqual(turned_back(steps=((1,),), begin=(4,)), ((-4,), ((1,),)))
        self.assertEqual(tints_along(many=2, step=(1, 0), begin=(0, 0), heap=TWO), (2, 5))

    def test_defined_in_its_file(self):
        for name in ("is_view", "moved", "seen", "seen_of_seen", "turned_back", "tints_along"):
            self.assertEqual(getattr(views, name).__module__, "slantpanes.views")


class Views(unittest.TestCase):
    def test_right_ones(self):
        maker = brute.Maker(501)
        for trial in range(60):
            begin, steps = made_view(maker, trial % 3 + 1, maker.rand.choice((3, 10 ** 60 - 1)))
            self.assertIs(is_view(begin, steps), True)
        for breadth in (1, 2, 3):
            zeros = (0,) * breadth
            self.assertIs(is_view(zeros, (zeros,) * 3), True)

    def test_wrong_ones(self):
        for wrong in brute.NO_CELLS:
            self.assertIs(is_view(wrong, ((1, 0),)), False)
            self.assertIs(is_view(wrong, wrong), False)
        for wrong in NO_STEPS:
            self.assertIs(is_view((0, 0), wrong), False, wrong)
        self.assertIs(is_view((0,), ((1, 0),)), False)
        self.assertIs(is_view((0, 0, 0), ((1, 0),)), False)


class Moved(unittest.TestCase):
    def test_all_cells_of_a_box(self):
        maker = brute.Maker(502)
        for trial in range(60):
            breadth = trial % 3 + 1
            heap = maker.heap(breadth, [1, 2, 3, 4, 6], maker.rand.randrange(6), 10 ** 39)
            step = tuple(maker.rand.randrange(-9, 10) for _ in range(breadth))
            found = moved(heap, step)
            self.assertTrue(brute.told_heap(found))
            self.assertEqual(sorted((stripe[:2], tint) for stripe, tint in found), sorted((s[:2], tint) for s, tint in heap))
            for cell in brute.box(breadth, 4):
                self.assertEqual(brute.tint(found, tuple(a + b for a, b in zip(cell, step))), brute.tint(heap, cell))
            self.assertEqual(moved(found, tuple(-number for number in step)), heap)

    def test_stripes_stay_as_they_are_written(self):
        self.assertEqual(moved((((5, (2, 4), 1), 3),), (1, 0)), (((5, (2, 4), 3), 3),))
        self.assertEqual(moved((((2, (1, 0), 0), 3), ((2, (1, 0), 1), 4)), (1, 0)), (((2, (1, 0), 0), 4), ((2, (1, 0), 1), 3)))
        self.assertEqual(moved(TWO, (0, 0)), TWO)

    def test_great_numbers_and_the_empty_heap(self):
        for m in GREAT:
            self.assertEqual(moved((((m, (1, m - 1), 0), 5),), (10 ** 59, 7)), (((m, (1, m - 1), (10 ** 59 - 7) % m), 5),))
        for step in ((1,), (1, 2), (-10 ** 59, 0, 3)):
            self.assertEqual(moved((), step), ())

    def test_errors_in_their_order(self):
        for wrong in brute.NO_HEAPS:
            name, told = brute.raised(moved, wrong, None)
            self.assertEqual(name, "BadHeap")
            self.assertIs(told["thing"], wrong)
        for heap in (FIVE, WALK, ROOM, ()):
            others = [(0,) * k for k in (1, 2, 3) if heap and k != len(heap[0][0][1])]
            for wrong in brute.NO_CELLS + others:
                name, told = brute.raised(moved, heap, wrong)
                self.assertEqual(name, "BadCell")
                self.assertIs(told["thing"], wrong)


class Seen(unittest.TestCase):
    def check(self, heap, begin, steps, cells):
        found = seen(heap, begin, steps)
        self.assertTrue(brute.told_heap(found))
        self.assertTrue(all(brute.told_normal(stripe) and len(stripe[1]) == len(steps) for stripe, _ in found))
        for u in cells:
            self.assertEqual(brute.tint(found, u), brute.tint(heap, cell_at(begin, steps, u)), (heap, begin, steps, u))
        return found

    def test_small_heaps(self):
        maker = brute.Maker(503)
        counts = set()
        for trial in range(150):
            breadth = trial % 3 + 1
            heap = maker.heap(breadth, [1, 2, 3, 4, 6, 12], maker.rand.randrange(6))
            begin, steps = made_view(maker, breadth)
            found = self.check(heap, begin, steps, brute.box(len(steps), 4))
            counts.add((breadth, len(steps)))
            self.assertLessEqual(len(found), len(heap))
        self.assertEqual(len(counts), 9)

    def test_stripes_without_cells_and_stripes_that_become_one(self):
        self.assertEqual(seen(SIX, (1, 0), ((0, 0),)), ())
        self.assertEqual(seen(SIX, (1, 1), ((0, 0), (0, 0), (0, 0))), (((1, (0, 0, 0), 0), 1),))
        pair = (((2, (1, 0), 0), 3), ((2, (1, 1), 0), 4), ((4, (1, 2), 1), 9))
        self.assertEqual(seen(pair, (0, 0), ((1, 2),)), (((2, (1,), 0), 7), ((4, (1,), 1), 9)))
        self.assertEqual(seen((((2, (1, 0), 0), 3), ((2, (1, 1), 0), -3)), (0, 0), ((1, 2),)), ())
        self.assertEqual(seen((), (1, 2, 3), ((0, 0, 1),)), ())

    def test_every_kth_cell(self):
        for k in range(1, 13):
            found = seen(TWO, (0, 0), ((k, 0), (0, k)))
            self.assertEqual(brute.look(found, 2, 12), [brute.tint(TWO, (k * x, k * y)) for x, y in brute.box(2, 12)])

    def test_great_numbers(self):
        maker = brute.Maker(504)
        for trial in range(30):
            breadth = trial % 3 + 1
            heap = maker.heap(breadth, GREAT, 12, 10 ** 39)
            begin, steps = made_view(maker, breadth, 10 ** 60 - 1)
            cells = [tuple(maker.rand.randrange(10 ** 20) for _ in steps) for _ in range(3)]
            self.check(heap, begin, steps, cells)
            (m, c, r), _ = maker.rand.choice(heap)
            on = [(0,) * len(steps)]
            place = next((at for at in range(breadth) if all(c[at] % p for p, _ in brute.powers_of(m))), None)
            if place is not None:
                # A view whose begin lies on the stripe shows it at the cell of zeros.
                rest = sum(a * b for k, (a, b) in enumerate(zip(c, begin)) if k != place)
                begin = (*begin[:place], (r - rest) * pow(c[place], -1, m), *begin[place + 1:])
                self.assertNotEqual(self.check((((m, c, r), 1),), begin, steps, on), ())

    def test_errors_in_their_order(self):
        for wrong in brute.NO_HEAPS:
            name, told = brute.raised(seen, wrong, None, None)
            self.assertEqual(name, "BadHeap")
            self.assertIs(told["thing"], wrong)
        for heap in (FIVE, WALK, ROOM, ()):
            others = [(0,) * k for k in (1, 2, 3) if heap and k != len(heap[0][0][1])]
            for wrong in brute.NO_CELLS + others:
                name, told = brute.raised(seen, heap, wrong, None)
                self.assertEqual(name, "BadCell")
                self.assertIs(told["thing"], wrong)
        for heap in (FIVE, ()):
            for wrong in NO_STEPS:
                name, told = brute.raised(seen, heap, (0, 0), wrong)
                self.assertEqual(name, "BadSteps")
                self.assertIs(told["thing"], wrong)


class ViewsOfViews(unittest.TestCase):
    def test_seen_of_seen(self):
        maker = brute.Maker(505)
        for trial in range(150):
            breadth = trial % 3 + 1
            begin, steps = made_view(maker, breadth)
            begin_two, steps_two = made_view(maker, len(steps))
            view = seen_of_seen(begin, steps, begin_two, steps_two)
            self.assertIs(is_view(*view), True)
            self.assertEqual(len(view[1]), len(steps_two))
            for w in brute.box(len(steps_two), 3):
                self.assertEqual(cell_at(*view, w), cell_at(begin, steps, cell_at(begin_two, steps_two, w)))
            heap = maker.heap(breadth, [1, 2, 3, 4, 6], 4)
            twice = seen(seen(heap, begin, steps), begin_two, steps_two)
            self.assertEqual(twice, seen(heap, *view))

    def test_great_views(self):
        maker = brute.Maker(506)
        for trial in range(12):
            begin, steps = made_view(maker, trial % 3 + 1, 10 ** 60 - 1)
            begin_two, steps_two = made_view(maker, len(steps), 10 ** 60 - 1)
            view = seen_of_seen(begin, steps, begin_two, steps_two)
            for w in brute.box(len(steps_two), 2):
                self.assertEqual(cell_at(*view, w), cell_at(begin, steps, cell_at(begin_two, steps_two, w)))

    def test_turned_back(self):
        maker = brute.Maker(507)
        for trial in range(120):
            breadth = trial % 3 + 1
            steps = made_turn(maker, breadth, maker.rand.choice((1, 3, 10 ** 9)))
            begin = tuple(maker.rand.randrange(-10 ** 59, 10 ** 59) for _ in range(breadth))
            back = turned_back(begin, steps)
            self.assertIs(is_view(*back), True)
            units = tuple(tuple(int(k == at) for k in range(breadth)) for at in range(breadth))
            self.assertEqual(seen_of_seen(begin, steps, *back), ((0,) * breadth, units))
            self.assertEqual(seen_of_seen(*back, begin, steps), ((0,) * breadth, units))
            self.assertEqual(turned_back(*back), (begin, steps))
            heap = maker.heap(breadth, [1, 2, 3, 4, 6], 4)
            told = seen(seen(heap, begin, steps), *back)
            self.assertIs(do_look_alike(told, heap), True)

    def test_all_small_steps(self):
        for breadth, greatest in ((1, 4), (2, 2)):
            numbers = range(-greatest, greatest + 1)
            for steps in itertools.product(itertools.product(numbers, repeat=breadth), repeat=breadth):
                turn = steps[0][0] if breadth == 1 else steps[0][0] * steps[1][1] - steps[0][1] * steps[1][0]
                error = brute.raised(turned_back, (0,) * breadth, steps)
                self.assertEqual(error, None if turn in (1, -1) else ("BadSteps", {"thing": steps}))

    def test_steps_that_do_not_turn(self):
        zeros = (0, 0, 0)
        for begin, steps in (
            ((0, 0), ((1, 0),)), ((0, 0), ((1, 0), (0, 1), (1, 1))), ((0, 0), ((1, 1), (2, 2))), ((0,), ((1,), (1,))),
            ((0,), ((2,),)), ((0,), ((0,),)), (zeros, ((1, 0, 0), (0, 1, 0))), (zeros, ((1, 0, 0), (0, 1, 0), (1, 1, 0))),
            (zeros, ((1, 0, 0), (0, 1, 0), (0, 0, 2))), (zeros, (zeros, zeros, zeros)), ((0, 0), ((0, 0), (0, 0))),
        ):
            self.assertEqual(brute.raised(turned_back, begin, steps), ("BadSteps", {"thing": steps}))

    def test_errors_in_their_order(self):
        for wrong in brute.NO_CELLS:
            for call in (lambda: seen_of_seen(wrong, None, None, None), lambda: turned_back(wrong, None)):
                name, told = brute.raised(call)
                self.assertEqual(name, "BadCell")
                self.assertIs(told["thing"], wrong)
        for wrong in NO_STEPS:
            for call in (lambda: seen_of_seen((0, 0), wrong, None, None), lambda: turned_back((0, 0), wrong)):
                name, told = brute.raised(call)
                self.assertEqual(name, "BadSteps")
                self.assertIs(told["thing"], wrong)
        for wrong in brute.NO_CELLS + [(0,), (0, 0, 0)]:
            name, told = brute.raised(seen_of_seen, (0,), ((1,), (1,)), wrong, None)
            self.assertEqual(name, "BadCell")
            self.assertIs(told["thing"], wrong)
        for wrong in NO_STEPS:
            name, told = brute.raised(seen_of_seen, (0,), ((1,), (1,)), (0, 0), wrong)
            self.assertEqual(name, "BadSteps")
            self.assertIs(told["thing"], wrong)


class Along(unittest.TestCase):
    def test_walks(self):
        maker = brute.Maker(508)
        for trial in range(40):
            breadth = trial % 3 + 1
            heap = maker.heap(breadth, [1, 2, 3, 4, 6], maker.rand.randrange(6), 10 ** 39)
            begin = tuple(maker.rand.randrange(-10 ** 59, 10 ** 59) for _ in range(breadth))
            step = tuple(maker.rand.randrange(-3, 4) for _ in range(breadth))
            many = maker.rand.randrange(0, 30)
            found = tints_along(heap, begin, step, many)
            cells = [tuple(a + k * b for a, b in zip(begin, step)) for k in range(many)]
            self.assertEqual(found, tuple(brute.tint(heap, cell) for cell in cells))
            walk = seen(heap, begin, (step,))
            self.assertEqual(found, tuple(brute.tint(walk, (k,)) for k in range(many)))

    def test_how_many(self):
        self.assertEqual(tints_along(TWO, (0, 0), (1, 0), 0), ())
        self.assertEqual(tints_along(TWO, (0, 0), (0, 0), 400), (2,) * 400)
        self.assertEqual(tints_along((), (0, 0, 0), (0, 0, 1), 3), (0, 0, 0))
        self.assertEqual(len(tints_along(WALK, (5,), (10 ** 59,), 400)), 400)

    def test_errors_in_their_order(self):
        for wrong in brute.NO_HEAPS:
            name, told = brute.raised(tints_along, wrong, None, None, None)
            self.assertEqual(name, "BadHeap")
            self.assertIs(told["thing"], wrong)
        for heap, begin in ((FIVE, (0, 0)), (WALK, (0,)), (ROOM, (0, 0, 0)), ((), (0, 0))):
            others = [(0,) * k for k in (1, 2, 3) if k != len(begin)]
            for wrong in brute.NO_CELLS + (others if heap else []):
                name, told = brute.raised(tints_along, heap, wrong, None, None)
                self.assertEqual(name, "BadCell")
                self.assertIs(told["thing"], wrong)
            for wrong in brute.NO_CELLS + others:
                name, told = brute.raised(tints_along, heap, begin, wrong, None)
                self.assertEqual(name, "BadCell")
                self.assertIs(told["thing"], wrong)
            for wrong in NO_COUNTS:
                name, told = brute.raised(tints_along, heap, begin, begin, wrong)
                self.assertEqual(name, "BadCount")
                self.assertIs(told["thing"], wrong)


if __name__ == "__main__":
    unittest.main()
