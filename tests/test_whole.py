"""The whole program: what one part tells agrees with what the others tell of the same heaps."""

import math
import unittest
from fractions import Fraction

import brute
from slantpanes.floors import floor_holds, floor_of, judge_floor, least_heap, least_multiple, plain_sum
from slantpanes.heaps import added, taken, times, tint_at
from slantpanes.lampfloors import judge_lamp_floor, lamp_floor_holds
from slantpanes.lamps import do_shine_alike, judge_lamps, lamp_at, lamp_degree, lamp_form, lamps_hold
from slantpanes.lookers import are_enough, enough_looks, fit_holds, judge_fit, judge_sure, rank_of
from slantpanes.looks import alike_holds, do_look_alike, great_levels, judge_alike, levels_of, plain_heap
from slantpanes.means import distance, likeness, mean, share_of_both
from slantpanes.meetings import (
    common_cells, do_meet, greatest_tint, judge_meeting, judge_never_above, meeting_holds, never_above_holds,
)
from slantpanes.panes import does_hold, exchanged, fewest_directions, judge_panes, laid, panes_hold
from slantpanes.returns import comes_again, corner_rows, is_return, judge_return, looks_by_moving, return_holds
from slantpanes.stripes import are_same, normal_stripe, stripe_by
from slantpanes.views import moved, seen, seen_of_seen, tints_along, turned_back
from slantpanes.yards import Yard, fault_holds

PERIODS = [1, 2, 3, 4, 6, 12]
GREAT = [2 ** 60, 6 ** 30, 210 ** 16, 29 ** 20, 10 ** 39]


def opposite(step):
    return tuple(-number for number in step)


class Whole(unittest.TestCase):
    def setUp(self):
        self.maker = brute.Maker(801)

    def heaps(self, many, pairs=4, periods=PERIODS):
        """Heaps of all breadths, and some that look like them."""
        for trial in range(many):
            one = self.maker.heap(trial % 3 + 1, periods, self.maker.rand.randrange(1, pairs + 1), 9)
            other = self.maker.retold(one, (2, 3), 12) if trial % 2 else self.maker.heap(trial % 3 + 1, periods, 2)
            yield one, other

    def steps(self, breadth, greatest=7):
        return tuple(self.maker.rand.randrange(-greatest, greatest + 1) for _ in range(breadth))

    def test_looks_and_sums(self):
        for one, other in self.heaps(40):
            alike = do_look_alike(one, other)
            self.assertIs(plain_heap(taken(one, other)) == (), alike)
            self.assertIs(distance(one, other) == (0, 1), alike)
            self.assertEqual(judge_alike(one, other)[0], "alike" if alike else "apart")
            self.assertIs(alike_holds(one, other, judge_alike(one, other)), True)
            self.assertEqual(plain_heap(added(one, other)), added(plain_heap(one), plain_heap(other)))
            self.assertEqual(plain_heap(times(one, 5)), times(plain_heap(one), 5))
            self.assertEqual(levels_of(times(one, -3)), levels_of(one))
            self.assertEqual(Fraction(*mean(added(one, other))), Fraction(*mean(one)) + Fraction(*mean(other)))
            self.assertEqual(distance(times(one, 2), one), distance(one, ()))

    def test_moved_looks_and_returns(self):
        for one, _ in self.heaps(40):
            breadth = len(one[0][0][1])
            rows = corner_rows(one)
            for step in [self.steps(breadth), *rows, (0,) * breadth, tuple(map(sum, zip(*rows)))]:
                shifted = moved(one, step)
                alike = do_look_alike(one, shifted)
                self.assertIs(is_return(one, step), alike)
                self.assertEqual(judge_return(one, step)[0], "return" if alike else "apart")
                self.assertIs(return_holds(one, step, judge_return(one, step)), True)
                self.assertIs(likeness(one, one, step) == likeness(one, one, (0,) * breadth), alike)
                self.assertEqual(likeness(one, shifted, step), likeness(one, one, (0,) * breadth))
                self.assertEqual((corner_rows(shifted), great_levels(shifted)), (rows, great_levels(one)))
                self.assertEqual((mean(shifted), distance(shifted, ())), (mean(one), distance(one, ())))
                again = comes_again(one, step)
                self.assertIs(do_look_alike(one, moved(one, tuple(again * number for number in step))), True)
            self.assertTrue(all(is_return(one, row) for row in rows))

    def test_looks_by_moving_are_unlike_plain_heaps(self):
        for one, _ in self.heaps(12, 2, [2, 3, 4]):
            breadth, side = len(one[0][0][1]), math.lcm(*[stripe[0] for stripe, _ in one])
            if side ** breadth < 200:
                looks = {plain_heap(moved(one, step)) for step in brute.box(breadth, side)}
                self.assertEqual(len(looks), looks_by_moving(one))

    def test_views_and_looks(self):
        for one, other in self.heaps(60):
            breadth = len(one[0][0][1])
            begin, steps = self.steps(breadth), tuple(self.steps(breadth) for _ in range(self.maker.rand.randrange(1, 4)))
            if do_look_alike(one, other):
                self.assertIs(do_look_alike(seen(one, begin, steps), seen(other, begin, steps)), True)
            summed = seen(added(one, other), begin, steps)
            self.assertIs(do_look_alike(summed, added(seen(one, begin, steps), seen(other, begin, steps))), True)
            units = tuple(tuple(int(k == at) for k in range(breadth)) for at in range(breadth))
            self.assertIs(do_look_alike(seen(one, opposite(begin), units), moved(one, begin)), True)
            walk = seen(one, begin, steps[:1])
            self.assertEqual(tints_along(one, begin, steps[0], 9), tuple(tint_at(walk, (k,)) for k in range(9)))
            # A walk comes again when its step does, or before.
            self.assertEqual(comes_again(one, steps[0]) % comes_again(walk, (1,)), 0)

    def test_turned_views(self):
        for one, _ in self.heaps(30):
            breadth = len(one[0][0][1])
            steps = {1: ((-1,),), 2: ((2, 1), (5, 3)), 3: ((1, 2, 3), (0, 1, 4), (0, 0, -1))}[breadth]
            begin = self.steps(breadth)
            turned = seen(one, begin, steps)
            self.assertIs(do_look_alike(seen(turned, *turned_back(begin, steps)), one), True)
            self.assertEqual((mean(turned), distance(turned, ())), (mean(one), distance(one, ())))
            self.assertEqual(looks_by_moving(turned), looks_by_moving(one))
            self.assertEqual(len(great_levels(turned)), len(great_levels(one)))
            view = seen_of_seen(begin, steps, begin, steps)
            self.assertEqual(seen(one, *view), seen(turned, begin, steps))

    def test_panes_and_views(self):
        for trial in range(40):
            row = self.maker.heap(1, PERIODS, 3)
            breadth = trial % 2 + 2
            direction = {2: (3, 2), 3: (2, -3, 6)}[breadth]
            step = {2: (1, -1), 3: (2, 1, 0)}[breadth]
            pane = laid(direction, row)
            # Along a step on which the direction tells 1 the pane shows its row.
            self.assertIs(do_look_alike(seen(pane, (0,) * breadth, (step,)), row), True)
            self.assertTrue(all(does_hold(direction, level) for level in levels_of(pane)))
            self.assertEqual((mean(pane), distance(pane, ())), (mean(row), distance(row, ())))
            self.assertEqual(looks_by_moving(pane), looks_by_moving(row))
            paper = judge_panes(pane, (direction,))
            self.assertEqual(paper[0], "panes")
            self.assertIs(do_look_alike(paper[1][0], row), True)
            other = tuple(a + 12 * b for a, b in zip(direction, {2: (1, 0), 3: (0, 1, 0)}[breadth]))
            self.assertEqual(exchanged(direction, other, row), plain_heap(row))
            self.assertIs(do_look_alike(laid(other, row), pane), True)

    def test_fewest_directions_and_panes(self):
        for one, _ in self.heaps(30, 3):
            if len(one[0][0][1]) == 1:
                continue
            told = fewest_directions(one)
            paper = judge_panes(one, told) if told else ("panes", ())
            self.assertEqual(paper[0], "panes")
            self.assertTrue(not told or panes_hold(one, told, paper))
            whole = ()
            for direction, row in zip(told, paper[1]):
                whole = added(whole, laid(direction, row))
            self.assertIs(do_look_alike(whole, one), True)

    def test_meetings_and_shares(self):
        for trial in range(120):
            periods = PERIODS if trial % 4 else GREAT
            one, other = (self.maker.stripe(trial % 3 + 1, periods) for _ in range(2))
            share, cells = share_of_both(one, other), common_cells((one, other))
            self.assertIs(do_meet((one, other)), share[0] > 0)
            if cells is not None:
                area = math.prod(row[at] for at, row in enumerate(cells[1]))
                self.assertEqual(share, (1, area))
            self.assertIs(are_same(one, other), Fraction(*share) == Fraction(1, one[0]) == Fraction(1, other[0]))
            self.assertIs(meeting_holds((one, other), judge_meeting((one, other))), True)

    def test_common_cells_and_returns(self):
        for one, _ in self.heaps(40):
            stripes = tuple(stripe for stripe, _ in one)
            cells = common_cells(stripes)
            if cells is not None:
                # Each step between common cells leaves each stripe as it is; so it is a return of the heap.
                self.assertTrue(all(is_return(one, row) for row in cells[1]))
                self.assertTrue(all(is_return(((stripe, 1),), row) for stripe in stripes for row in cells[1]))
                self.assertEqual(tint_at(one, cells[0]), sum(tint for _, tint in one))

    def test_greatest_tints_floors_and_alike_heaps(self):
        for one, _ in self.heaps(40):
            bright = tuple((stripe, abs(tint)) for stripe, tint in one)
            weight, cell = greatest_tint(bright)
            self.assertEqual(tint_at(bright, cell), weight)
            breadth = len(cell)
            side = math.lcm(*[stripe[0] for stripe, _ in bright])
            if breadth == 2 and side <= 6:
                self.assertEqual(max(map(max, floor_of(bright, (side, side)))), weight)
            self.assertEqual(judge_never_above(bright, weight)[0], "never")
            self.assertIs(never_above_holds(bright, weight - 1, ("above", cell)), True)
            other = moved(bright, self.steps(breadth))
            self.assertEqual(greatest_tint(other)[0], weight)
            self.assertLessEqual(Fraction(*mean(bright)), weight)

    def test_looks_that_are_told_back(self):
        for one, _ in self.heaps(30, 6):
            stripes = tuple(sorted({normal_stripe(stripe) for stripe, _ in one}))
            looks = enough_looks(stripes)
            self.assertIs(are_enough(stripes, looks), True)
            heap = brute.heap_of({stripe: self.maker.rand.randrange(-5, 6) for stripe in stripes})
            tints = tuple(tint_at(heap, look) for look in looks)
            kind, found = judge_fit(stripes, looks, tints)
            self.assertEqual(kind, "fits")
            self.assertIs(do_look_alike(found, heap), True)
            self.assertIs(fit_holds(stripes, looks, tints, ("fits", heap)), True)
            for _ in range(4):
                cell = self.steps(len(stripes[0][1]))
                kind, fractions = judge_sure(stripes, looks, cell)
                self.assertEqual(kind, "sure")
                told = sum(tint * Fraction(*part) for tint, part in zip(tints, fractions))
                self.assertEqual(told, tint_at(heap, cell))
            plain = [stripe for stripe, _ in plain_heap(one)][:12]
            if plain:
                self.assertEqual(rank_of(tuple(plain)), len(plain))

    def test_open_cells_are_apart(self):
        for one, _ in self.heaps(30, 6):
            stripes = tuple(sorted({normal_stripe(stripe) for stripe, _ in one}))
            looks = tuple(self.steps(len(stripes[0][1])) for _ in range(2))
            cell = self.steps(len(stripes[0][1]))
            kind, told = judge_sure(stripes, looks, cell)
            if kind == "open":
                self.assertIs(alike_holds(told, (), ("apart", cell)), True)
                self.assertTrue(all(tint_at(told, look) == 0 for look in looks))

    def test_floors_heaps_and_views(self):
        for trial in range(40):
            sides = self.maker.rand.choice([(2, 2), (3, 2), (4, 3), (6, 6), (1, 5), (5, 5), (12, 3)])
            floor = tuple(tuple(self.maker.rand.randrange(-3, 4) for _ in range(sides[1])) for _ in range(sides[0]))
            heap, many = least_heap(floor), least_multiple(floor)
            self.assertEqual(floor_of(heap, sides), tuple(tuple(many * tint for tint in row) for row in floor))
            self.assertEqual(plain_heap(heap), heap)
            self.assertIs(is_return(heap, (sides[0], 0)) and is_return(heap, (0, sides[1])), True)
            total = Fraction(sum(map(sum, floor)), sides[0] * sides[1])
            self.assertEqual(Fraction(*mean(heap)), many * total)
            self.assertEqual(sum(Fraction(*part) / stripe[0] for stripe, part in plain_sum(floor)), total)
            self.assertEqual(judge_floor(floor)[0], "heap" if many == 1 else "bar")
            squares = Fraction(sum(tint * tint for row in floor for tint in row), sides[0] * sides[1])
            self.assertEqual(Fraction(*distance(heap, ())), many * many * squares)
            turned = tuple(zip(*floor))
            self.assertIs(do_look_alike(least_heap(turned), seen(heap, (0, 0), ((0, 1), (1, 0)))), True)
            self.assertEqual(least_multiple(turned), many)
            self.assertIs(floor_holds(floor_of(heap, sides), ("heap", heap)), True)

    def test_lamps_looks_and_views(self):
        for one, other in self.heaps(60, 3, [1, 2, 3, 4]):
            p = self.maker.rand.choice((2, 3, 5, 7))
            breadth = len(one[0][0][1])
            shine = do_shine_alike(one, other, p)
            if do_look_alike(one, other):
                self.assertIs(shine, True)
            paper = judge_lamps(one, other, p)
            self.assertIs(lamps_hold(one, other, p, paper), True)
            if paper[0] == "apart":
                self.assertNotEqual(lamp_at(one, p, paper[1]), lamp_at(other, p, paper[1]))
                self.assertIs(alike_holds(one, other, ("apart", paper[1])), True)
            self.assertEqual(lamp_form(plain_heap(one), p), lamp_form(one, p))
            step = self.steps(breadth)
            self.assertIs(do_shine_alike(moved(one, step), moved(other, step), p), shine)
            self.assertEqual(lamp_degree(moved(one, step), p), lamp_degree(one, p))
            self.assertIs(do_shine_alike(added(one, times(other, p)), one, p), True)

    def test_lamps_of_floors(self):
        for trial in range(30):
            p = (2, 3, 5)[trial % 3]
            heap = self.maker.heap(2, [1, p], 4)
            floor = floor_of(heap, (p, p))
            lamps = tuple(tuple(tint % p for tint in row) for row in floor)
            kind, told = judge_lamp_floor(lamps, p)
            self.assertEqual(kind, "heap")
            self.assertIs(do_shine_alike(told, heap, p), True)
            self.assertIs(lamp_floor_holds(lamps, p, ("heap", heap)), True)
            self.assertIs(floor_holds(floor, ("heap", heap)), True)

    def test_yards(self):
        for one, other in self.heaps(60):
            yard = Yard()
            yard.deal((("put", "one", one), ("put", "other", other)))
            breadth = len(one[0][0][1])
            step = self.maker.rand.choice([self.steps(breadth), *corner_rows(one)])
            tops = Fraction(*mean(other))
            kept = [
                (("alike", "one", "other"), do_look_alike(one, other)),
                (("return", "one", step), is_return(one, step)),
                (("mean", "one", (tops.numerator * 3, tops.denominator * 3)), mean(one) == mean(other)),
                (("never above", "one", 4), all(tint > 0 for _, tint in one) and greatest_tint(one)[0] <= 4),
            ]
            if breadth > 1:
                told = fewest_directions(one) or ((0,) * (breadth - 1) + (1,),)
                kept.append((("held", "one", told), True))
                kept.append((("held", "other", told), judge_panes(other, told)[0] == "panes"))
            for promise, right in kept:
                judged = yard.judged(promise)
                self.assertIs(judged == ("kept",), right, (promise, one, other))
                self.assertIs(fault_holds(yard, promise, judged), not right)
            yard.deal((("move", "one", step), ("times", "one", 3), ("add", "one", "other")))
            self.assertEqual(yard.heap("one"), added(times(moved(one, step), 3), other))
            self.assertEqual(Yard.read(str(yard)), yard)

    def test_great_heaps(self):
        for trial in range(12):
            breadth = trial % 3 + 1
            one = self.maker.heap(breadth, GREAT, 4, 10 ** 39)
            if sum(brute.plain_pieces(normal_stripe(stripe)) for stripe, _ in one) > 200:
                continue
            step = self.steps(breadth, 10 ** 59)
            self.assertIs(do_look_alike(moved(moved(one, step), opposite(step)), one), True)
            self.assertEqual(mean(moved(one, step)), mean(one))
            self.assertIs(is_return(one, tuple(comes_again(one, step) * number for number in step)), True)
            stripes = tuple(sorted({normal_stripe(stripe) for stripe, _ in one}))
            self.assertEqual(judge_sure(stripes, (step,) * 24, step)[0], "sure")
            view = (step, (step, tuple(number + 1 for number in step)))
            self.assertEqual(tint_at(seen(one, *view), (0, 0)), tint_at(one, step))

    def test_stripes_by_steps_are_views(self):
        for trial in range(60):
            breadth = trial % 3 + 1
            stripe = self.maker.stripe(1, PERIODS)
            step = self.steps(breadth)
            found = stripe_by(tuple(stripe[1][0] * number for number in step), stripe[0], stripe[2])
            # The walk that turns at each cell to the number step . x.
            view = seen(((stripe, 1),), (0,), tuple((number,) for number in step))
            self.assertEqual(view, () if found is None else ((found, 1),))


if __name__ == "__main__":
    unittest.main()
