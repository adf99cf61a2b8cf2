"""Part 6: meetings."""

import itertools
import math
import time
import unittest
from fractions import Fraction

import brute
from slantpanes import meetings
from slantpanes.heaps import tint_at
from slantpanes.meetings import (
    common_cells, do_meet, greatest_tint, judge_meeting, judge_never_above, meeting_holds, never_above_holds,
)
from slantpanes.returns import corner_rows

THREE = ((2, (1, 0), 0), (2, (0, 1), 0), (2, (1, 1), 1))
BAR = ((0, 1), (1, 1), (2, 1))
PAIR = ((3, (1, 1), 0), (4, (1, 0), 1))
HEAP = ((PAIR[0], 2), (PAIR[1], 5))
BRIGHT = tuple((stripe, 1) for stripe in sorted(THREE))
GREAT = [2 ** 132, 3 ** 83, 210 ** 17, 6 ** 51, 30 ** 26, 29 ** 27, 2 ** 60 * 3 ** 30 * 5 ** 10, 10 ** 39, 5 ** 57]
NO_STRIPE_TUPLES = brute.NOTHING_OF_ALL + [
    (), (2, (1, 0), 0), [THREE[0]], (list(THREE[0]),), (THREE[0], (2, (1,), 0)), ((2, (1,), 0), THREE[0]),
    (THREE[0], (2, (1, 0, 0), 0)), (THREE[0],) * 13, (THREE[0], None), (None, THREE[0]), (5, THREE[0]),
    (True, THREE[0]), (THREE[0], 7), (THREE[0], ()), ((), THREE[0]), (brute.YARD, THREE[0]), (THREE[0], brute.YARD),
] + [(wrong, THREE[0]) for wrong in brute.NO_STRIPES] + [(THREE[0], wrong) for wrong in brute.NO_STRIPES]


def told_bar(stripes, thing):
    """A bar of [6.1] by its words."""
    breadth = len(stripes[0][1])
    if not isinstance(thing, tuple) or len(thing) > breadth + 1:
        return False
    for item in thing:
        if not isinstance(item, tuple) or len(item) != 2 or not all(brute.is_whole(number) for number in item):
            return False
        if not 0 <= item[0] < len(stripes) or item[1] == 0:
            return False
    if list(thing) != sorted(thing) or len({number for number, _ in thing}) < len(thing):
        return False
    for place in range(breadth):
        if sum(Fraction(l * stripes[number][1][place], stripes[number][0]) for number, l in thing).denominator > 1:
            return False
    return sum(Fraction(l * stripes[number][2], stripes[number][0]) for number, l in thing).denominator > 1


def told_never(heap, bound, bars):
    """The paper ("never", bars) of [6.3] by its words."""
    stripes = [stripe for stripe, _ in heap]
    if not isinstance(bars, tuple) or not all(stripes and told_bar(stripes, bar) for bar in bars):
        return False
    for lot in itertools.product((0, 1), repeat=len(heap)):
        if sum(tint for inside, (_, tint) in zip(lot, heap) if inside) > bound:
            if not any(all(lot[number] for number, _ in bar) for bar in bars):
                return False
    return True


def meeting_cells(stripes):
    """All common cells in a box of the side of the least common multiple of the periods."""
    side = math.lcm(*[stripe[0] for stripe in stripes])
    breadth = len(stripes[0][1])
    return [cell for cell in brute.box(breadth, side) if all(brute.on(stripe, cell) for stripe in stripes)]


def stripes_through(maker, cell, periods, many):
    """So many stripes on which the cell lies."""
    found = []
    for _ in range(many):
        m, c, _ = maker.stripe(len(cell), periods)
        found.append((m, c, sum(a * b for a, b in zip(c, cell)) % m))
    return tuple(found)


def made_stripes(maker, trial):
    """Some stripes of a small common period."""
    breadth = trial % 3 + 1
    periods = maker.rand.choice([[1, 2, 3, 6], [2, 4, 8], [1, 2, 4, 12], [3, 9], [5, 2], [12], [2]])
    return tuple(maker.stripe(breadth, periods) for _ in range(maker.rand.randrange(1, 6)))


class Examples(unittest.TestCase):
    def test_never(self):
        self.assertIs(do_meet(THREE), False)
        self.assertIs(meeting_holds(THREE, ("never", BAR)), True)
        self.assertEqual(judge_meeting(THREE), ("never", BAR))
        for two in itertools.combinations(THREE, 2):
            self.assertIs(do_meet(two), True)
        self.assertIsNone(common_cells(THREE))

    def test_common_cells(self):
        self.assertEqual(common_cells(PAIR), ((1, 2), ((4, 2), (0, 3))))

    def test_greatest_tint(self):
        weight, cell = greatest_tint(HEAP)
        self.assertEqual((weight, tint_at(HEAP, cell)), (7, 7))
        self.assertEqual(judge_never_above(HEAP, 7), ("never", ()))
        self.assertIs(never_above_holds(HEAP, 6, ("above", (1, 2))), True)
        stripes = tuple(stripe for stripe, _ in BRIGHT)
        self.assertEqual(stripes, (THREE[1], THREE[0], THREE[2]))
        self.assertIs(never_above_holds(BRIGHT, 2, ("never", (BAR,))), True)
        self.assertEqual(judge_never_above(BRIGHT, 2)[0], "never")

    def test_arguments_by_name(self):
        self.assertEqual(judge_meeting(stripes=PAIR)[0], "meet")
        self.assertIs(meeting_holds(thing=("never", BAR), stripes=THREE), True)
        self.assertIs(do_meet(stripes=PAIR), True)
        self.assertEqual(common_cells(stripes=PAIR)[0], (1, 2))
        self.assertEqual(greatest_tint(heap=HEAP)[0], 7)
        self.assertEqual(judge_never_above(bound=7, heap=HEAP), ("never", ()))
        self.assertIs(never_above_holds(thing=("never", ()), bound=7, heap=HEAP), True)

    def test_defined_in_its_file(self):
        for name in ("judge_meeting", "meeting_holds", "do_meet", "common_cells", "greatest_tint", "judge_never_above",
                     "never_above_holds"):
            self.assertEqual(getattr(meetings, name).__module__, "slantpanes.meetings")


class Meetings(unittest.TestCase):
    def check(self, stripes):
        """Whether the stripes meet, as the paper shows."""
        paper = judge_meeting(stripes)
        self.assertEqual(judge_meeting(stripes), paper)
        self.assertEqual(len(paper), 2)
        self.assertIs(meeting_holds(stripes, paper), True)
        self.assertIs(do_meet(stripes), paper[0] == "meet")
        if paper[0] == "meet":
            self.assertTrue(brute.told_cell(paper[1]) and len(paper[1]) == len(stripes[0][1]))
            self.assertTrue(all(brute.on(stripe, paper[1]) for stripe in stripes))
        else:
            self.assertEqual(paper[0], "never")
            self.assertTrue(told_bar(stripes, paper[1]), (stripes, paper))
            self.assertIsNone(common_cells(stripes))
        return paper[0] == "meet"

    def test_small_stripes(self):
        maker = brute.Maker(301)
        kinds = []
        for trial in range(240):
            stripes = made_stripes(maker, trial)
            kinds.append(self.check(stripes))
            if math.lcm(*[stripe[0] for stripe in stripes]) <= 12:
                self.assertIs(kinds[-1], meeting_cells(stripes) != [])
        self.assertGreater(kinds.count(True), 50)
        self.assertGreater(kinds.count(False), 50)

    def test_all_pairs_and_triples_of_small_stripes(self):
        for periods, breadth, many in (((1, 2, 4), 1, 3), ((2,), 2, 3), ((2, 4), 2, 2), ((3,), 2, 2), ((2,), 3, 2)):
            some = [stripe for m in periods for stripe in brute.stripes_of(m, breadth)]
            for stripes in itertools.product(some[::2], repeat=many):
                self.assertIs(self.check(stripes), meeting_cells(stripes) != [], stripes)

    def test_one_stripe_always_meets(self):
        maker = brute.Maker(302)
        for breadth, m in itertools.product((1, 2, 3), [1, 2, 12, *GREAT]):
            stripe = maker.stripe(breadth, [m])
            self.assertIs(self.check((stripe,)), True)
            self.assertIs(self.check((stripe,) * 12), True)
            for l in (1, -1, m, m // 2, 7):
                self.assertIs(meeting_holds((stripe,), ("never", ((0, l),))), False)

    def test_the_same_stripe_twice_and_its_sister(self):
        for m in (2, 3, 12, *GREAT):
            one, other = (m, (1, 5 % m), 0), (m, (1, 5 % m), m - 1)
            self.assertIs(self.check((one, one)), True)
            self.assertIs(self.check((one, other)), False)
            self.assertIs(self.check((one, one, other)), False)
            self.assertIs(meeting_holds((one, one), ("never", ((0, 1), (1, -1)))), False)
            self.assertIs(meeting_holds((one, other), ("never", ((0, 1), (1, -1)))), True)
            self.assertIs(meeting_holds((one, other), ("never", ((0, 1 - 5 * m), (1, m - 1)))), True)

    def test_the_period_one(self):
        for breadth in (1, 2, 3):
            whole = (1, (0,) * breadth, 0)
            self.assertIs(self.check((whole, whole)), True)
            self.assertEqual(common_cells((whole,))[0], (0,) * breadth)
            self.assertIs(meeting_holds((whole,), ("meet", (-10 ** 59,) * breadth)), True)

    def test_each_three_meet_but_not_all_four(self):
        for m in (2, 6, *GREAT):
            units = [(m, tuple(int(place == at) for place in range(3)), 0) for at in range(3)]
            stripes = (*units, (m, (1, 1, 1), 1))
            for lot in itertools.combinations(stripes, 3):
                self.assertIs(self.check(lot), True)
            self.assertIs(self.check(stripes), False)
            self.assertEqual(len(judge_meeting(stripes)[1]), 4)

    def test_great_stripes_through_one_cell(self):
        maker = brute.Maker(303)
        for breadth in (1, 2, 3):
            for _ in range(12):
                cell = tuple(maker.rand.randrange(-10 ** 59, 10 ** 59) for _ in range(breadth))
                stripes = stripes_through(maker, cell, GREAT, 12)
                self.assertIs(self.check(stripes), True)
                self.assertIs(meeting_holds(stripes, ("meet", cell)), True)
                at = maker.rand.randrange(12)
                m, c, r = stripes[at]
                broken = (*stripes[:at], (m, c, (r + maker.rand.randrange(1, m)) % m), *stripes[at + 1:])
                if not self.check(broken):
                    self.assertIs(meeting_holds(broken, ("meet", cell)), False)

    def test_stripes_that_meet_in_lots_of_breadth_alone(self):
        maker = brute.Maker(304)
        for breadth in (1, 2, 3):
            for _ in range(20):
                periods = maker.rand.choice([[2 ** 40], [3 ** 20, 3 ** 25], [6 ** 12, 6 ** 11], [4, 8, 16]])
                stripes = tuple(maker.stripe(breadth, periods) for _ in range(maker.rand.randrange(2, 13)))
                meet = self.check(stripes)
                lots = itertools.combinations(stripes, min(breadth + 1, len(stripes)))
                self.assertIs(all(do_meet(lot) for lot in lots), meet)

    def test_wrong_papers(self):
        maker = brute.Maker(305)
        for trial in range(60):
            stripes = made_stripes(maker, trial)
            paper = judge_meeting(stripes)
            for thing in brute.spoiled(paper):
                right = False
                if isinstance(thing, tuple) and len(thing) == 2 and thing[0] == "meet":
                    right = brute.told_cell(thing[1]) and len(thing[1]) == len(stripes[0][1])
                    right = right and all(brute.on(stripe, thing[1]) for stripe in stripes)
                if isinstance(thing, tuple) and len(thing) == 2 and thing[0] == "never":
                    right = told_bar(stripes, thing[1])
                self.assertIs(meeting_holds(stripes, thing), right, (stripes, thing))
        for thing in brute.NO_CELLS + brute.NO_HEAPS + ["meet", ("meet",), ("never",), ["never", BAR], ("never", ())]:
            self.assertIs(meeting_holds(THREE, thing), False)
            self.assertIs(meeting_holds(THREE, ("never", thing)), False)
            self.assertIs(meeting_holds(THREE[:2], ("meet", thing)), False)
        for bar in (BAR[::-1], BAR[:2], ((0, 1), (0, 1), (1, 1), (2, 1)), ((0, 2), (1, 2), (2, 2)), ((1, 1), (2, 1), (3, 1)),
                    ((-3, 1), (1, 1), (2, 1)), ((0, True), (1, 1), (2, 1)), ((False, 1), (1, 1), (2, 1)),
                    ((0, 1), (1, 1), (2, 0)), ((0, 0), (1, 1), (2, 1)), [(0, 1), (1, 1), (2, 1)], ([0, 1], (1, 1), (2, 1)),
                    ((0, 1, 1), (1, 1), (2, 1)), ((0,), (1, 1), (2, 1)), (0, (1, 1), (2, 1))):
            self.assertIs(meeting_holds(THREE, ("never", bar)), False, bar)
        self.assertIs(meeting_holds(THREE, ("never", ((0, -1), (1, 3), (2, 10 ** 99 + 1)))), True)

    def test_each_number_once_and_no_0(self):
        for c in ((1,), (1, 2), (1, 0, 2)):
            stripes = ((3, c, 0), (3, c, 1), (3, c, 2))
            self.assertIs(meeting_holds(stripes, ("never", ((0, 1), (1, -1)))), True)
            self.assertIs(meeting_holds(stripes, ("never", ((0, 1), (0, 1), (1, 1)))), False)
            self.assertIs(meeting_holds(stripes, ("never", ((0, 2), (1, 0), (2, 1)))), False)
            self.assertIs(meeting_holds(stripes, ("never", ((0, 2), (2, 1)))), True)
            self.assertIs(meeting_holds(stripes, ("never", ((1, -1), (0, 1)))), False)

    def test_a_bar_has_at_most_one_stripe_more_than_the_breadth(self):
        four = (*THREE, (2, (0, 1), 0))
        self.assertIs(meeting_holds(four, ("never", ((0, 1), (1, 1), (2, 1)))), True)
        self.assertIs(meeting_holds(four, ("never", ((0, 1), (1, 1), (2, 1), (3, 2)))), False)
        self.assertIs(meeting_holds(((4, (1,), 0), (4, (1,), 1), (4, (1,), 2)), ("never", ((0, 1), (1, 1), (2, 2)))), False)

    def test_errors(self):
        for wrong in NO_STRIPE_TUPLES:
            for call in (judge_meeting, do_meet, common_cells, lambda told: meeting_holds(told, ("meet", (0, 0)))):
                name, told = brute.raised(call, wrong)
                self.assertEqual(name, "BadStripes")
                self.assertIs(told["thing"], wrong)
        self.assertIs(do_meet((THREE[0],) * 12), True)


class CommonCells(unittest.TestCase):
    def check(self, stripes):
        cell, rows = common_cells(stripes)
        breadth = len(cell)
        self.assertEqual([len(row) for row in rows], [breadth] * breadth)
        for at, row in enumerate(rows):
            self.assertTrue(all(number == 0 for number in row[:at]) and row[at] > 0)
            self.assertTrue(all(0 <= row[place] < rows[place][place] for place in range(at + 1, breadth)))
            self.assertTrue(all(sum(a * b for a, b in zip(c, row)) % m == 0 for m, c, _ in stripes))
            self.assertTrue(0 <= cell[at] < row[at])
        self.assertTrue(all(brute.on(stripe, cell) for stripe in stripes))
        return cell, rows

    def test_all_cells_of_a_box(self):
        maker = brute.Maker(306)
        done = 0
        for trial in range(200):
            stripes = made_stripes(maker, trial)
            if not do_meet(stripes) or math.lcm(*[stripe[0] for stripe in stripes]) > 12:
                continue
            done += 1
            cell, rows = self.check(stripes)
            # The rows are as far apart as they are to be: of a box as many cells are common as they tell.
            side = math.lcm(*[stripe[0] for stripe in stripes])
            share = math.prod(row[at] for at, row in enumerate(rows))
            self.assertEqual(len(meeting_cells(stripes)) * share, side ** len(cell))
        self.assertGreater(done, 50)

    def test_rows_are_those_of_returns(self):
        maker = brute.Maker(307)
        for _ in range(40):
            stripe = maker.stripe(maker.rand.randrange(1, 4), [1, 2, 12, 30, 6 ** 20])
            if brute.plain_pieces(stripe) < 100:
                self.assertEqual(self.check((stripe,))[1], corner_rows(((stripe, 1),)))
        self.assertEqual(common_cells(PAIR)[1], corner_rows(HEAP))

    def test_great_stripes(self):
        maker = brute.Maker(308)
        for breadth in (1, 2, 3):
            for _ in range(12):
                cell = tuple(maker.rand.randrange(10 ** 59) for _ in range(breadth))
                stripes = stripes_through(maker, cell, GREAT, maker.rand.randrange(1, 13))
                least, rows = self.check(stripes)
                left = [a - b for a, b in zip(cell, least)]
                for at, row in enumerate(rows):
                    self.assertEqual(left[at] % row[at], 0)
                    left = [a - left[at] // row[at] * b for a, b in zip(left, row)]
                self.assertEqual(left, [0] * breadth)


class GreatestTints(unittest.TestCase):
    def check(self, heap):
        weight, cell = greatest_tint(heap)
        self.assertEqual(brute.tint(heap, cell), weight)
        for bound in sorted({0, 1, weight - 1, weight, weight + 1, weight // 2, 10 ** 41}):
            if bound < 0:
                continue
            paper = judge_never_above(heap, bound)
            self.assertEqual(judge_never_above(heap, bound), paper)
            self.assertIs(never_above_holds(heap, bound, paper), True)
            if bound < weight:
                self.assertEqual(paper[0], "above")
                self.assertGreater(brute.tint(heap, paper[1]), bound)
            else:
                self.assertEqual(paper[0], "never")
                self.assertTrue(len(heap) > 8 or told_never(heap, bound, paper[1]))
        return weight

    def bright(self, maker, breadth, periods, many, greatest=9):
        tints = {maker.stripe(breadth, periods): maker.rand.randrange(1, greatest) for _ in range(many)}
        return brute.heap_of(tints)

    def test_small_heaps(self):
        maker = brute.Maker(309)
        for trial in range(60):
            breadth = trial % 3 + 1
            periods = maker.rand.choice([[2, 3, 6], [2, 4], [1, 2], [3], [12, 4]])
            heap = self.bright(maker, breadth, periods, maker.rand.randrange(1, 9))
            side = math.lcm(*[stripe[0] for stripe, _ in heap])
            if side <= 12:
                self.assertEqual(self.check(heap), max(brute.look(heap, breadth, side)))

    def test_great_heaps(self):
        maker = brute.Maker(310)
        for breadth in (1, 2, 3):
            for periods in (GREAT, [2, 4], [210 ** 17, 6 ** 50], [3 ** 80, 3 ** 81, 9]):
                begin = time.perf_counter()
                heap = self.bright(maker, breadth, periods, 12, 10 ** 40)
                self.check(heap)
                cell = tuple(maker.rand.randrange(10 ** 59) for _ in range(breadth))
                heap = brute.heap_of({stripe: 10 ** 39 for stripe in stripes_through(maker, cell, periods, 12)})
                self.assertEqual(self.check(heap), len(heap) * 10 ** 39)
                self.assertLess(time.perf_counter() - begin, 10)

    def test_the_empty_heap(self):
        weight, cell = greatest_tint(())
        self.assertEqual(weight, 0)
        self.assertTrue(brute.told_cell(cell))
        for bound in (0, 5, 10 ** 99):
            self.assertEqual(judge_never_above((), bound), ("never", ()))
            self.assertIs(never_above_holds((), bound, ("never", ())), True)
            for wrong in (("above", (0, 0)), ("above", (0,)), ("never", (BAR,)), ("never", ((),)), ("never", [])):
                self.assertIs(never_above_holds((), bound, wrong), False)

    def test_a_bound_of_zero(self):
        self.assertEqual(judge_never_above(BRIGHT, 0)[0], "above")
        self.assertIs(never_above_holds(BRIGHT, 0, ("never", (BAR,))), False)

    def test_wrong_papers(self):
        maker = brute.Maker(311)
        for trial in range(24):
            heap = self.bright(maker, trial % 3 + 1, [2, 3, 4], maker.rand.randrange(2, 6), 4)
            weight = greatest_tint(heap)[0]
            for bound in (weight - 1, weight, weight - 2 if weight > 1 else 0):
                for thing in brute.spoiled(judge_never_above(heap, bound)):
                    right = False
                    if isinstance(thing, tuple) and len(thing) == 2 and thing[0] == "above":
                        right = brute.told_cell(thing[1]) and len(thing[1]) == trial % 3 + 1
                        right = right and brute.tint(heap, thing[1]) > bound
                    if isinstance(thing, tuple) and len(thing) == 2 and thing[0] == "never":
                        right = told_never(heap, bound, thing[1])
                    self.assertIs(never_above_holds(heap, bound, thing), right, (heap, bound, thing))
        for thing in NO_STRIPE_TUPLES + brute.NO_CELLS + ["never", ("never",), ["never", ()], ("above",)]:
            self.assertIs(never_above_holds(BRIGHT, 2, thing), False)
            self.assertIs(never_above_holds(BRIGHT, 2, ("never", thing)), False)
            self.assertIs(never_above_holds(BRIGHT, 2, ("never", (BAR, thing))), False)
            self.assertIs(never_above_holds(BRIGHT, 0, ("above", thing)), False)
        self.assertIs(never_above_holds(BRIGHT, 2, ("never", (BAR,) * 2000)), True)
        self.assertIs(never_above_holds(BRIGHT, 3, ("never", (BAR, ((0, 2), (1, 2), (2, 2))))), False)

    def test_errors_in_their_order(self):
        calls = (greatest_tint, lambda heap: judge_never_above(heap, -1), lambda heap: never_above_holds(heap, None, 3))
        many = tuple(((23, (1, 0), r), -1) for r in range(13))
        for call in calls:
            for wrong in brute.NO_HEAPS + [many]:
                name, told = brute.raised(call, wrong)
                self.assertEqual(name, "BadHeap")
                self.assertIs(told["thing"], wrong)
            for at in range(3):
                heap = tuple((stripe, -tint if k >= at else tint) for k, (stripe, tint) in enumerate(BRIGHT))
                self.assertEqual(brute.raised(call, heap), ("BelowZero", {"stripe": BRIGHT[at][0]}))
        for wrong in brute.NOTHING_OF_ALL + [-1, -10 ** 99, (), (1,), "1", [2], ((0,),)]:
            for heap in (BRIGHT, ()):
                for call in (lambda: judge_never_above(heap, wrong), lambda: never_above_holds(heap, wrong, ("never", ()))):
                    name, told = brute.raised(call)
                    self.assertEqual(name, "BadBound")
                    self.assertIs(told["thing"], wrong)
        self.assertEqual(greatest_tint(tuple((stripe, 1) for stripe, _ in many[:12]))[0], 1)


if __name__ == "__main__":
    unittest.main()
