"""Part 2: plain heaps, looks alike and levels."""

import itertools
import unittest

import brute
from slantpanes import looks
from slantpanes.errors import BadHeap, OtherBreadth, TooMany
from slantpanes.looks import alike_holds, do_look_alike, great_levels, is_plain, judge_alike, levels_of, plain_heap

ONE = (((2, (1, 1), 0), 1),)
OTHER = (((2, (1, 0), 0), 1),)
SIXES = (((6, (1, 1), 0), 1), ((6, (1, 1), 3), 1))
THIRDS = (((3, (2, 2), 0), 1),)
THIRDS_PLAIN = (((3, (1, 1), 0), 1),)
WALK = (((2, (1,), 0), 1),)
ROOM = (((2, (1, 0, 0), 0), 1),)
# Periods of just 40 digits, or as near to them as their primes allow.
GREAT = [2 ** 132, 10 ** 39, 29 ** 27, 23 ** 14 * 29 ** 14, 2 ** 30 * 3 ** 20 * 5 ** 15 * 7 ** 12]


def within(level, other):
    """[2.6] by its words: whether the one level lies within the other."""
    m, c = level
    n, b = other
    return n % m == 0 and c in {tuple(u * number % m for number in b) for u in brute.units_of(m)}


class Examples(unittest.TestCase):
    def test_stripes_with_the_period_two(self):
        plain = [stripe for stripe in brute.stripes_of(2, 2) if is_plain(((stripe, 1),))]
        self.assertEqual(plain, [(2, (0, 1), 0), (2, (1, 0), 0), (2, (1, 1), 0)])

    def test_plain_heap(self):
        heap = (((2, (1, 0), 1), 5),)
        self.assertEqual(plain_heap(heap), (((1, (0, 0), 0), 5), ((2, (1, 0), 0), -5)))
        self.assertEqual(plain_heap(SIXES), THIRDS_PLAIN)
        self.assertEqual(plain_heap(THIRDS), THIRDS_PLAIN)

    def test_alike(self):
        self.assertIs(do_look_alike(SIXES, THIRDS), True)
        self.assertEqual(judge_alike(SIXES, THIRDS), ("alike", THIRDS_PLAIN))
        self.assertIs(alike_holds(SIXES, THIRDS, ("alike", THIRDS_PLAIN)), True)

    def test_apart(self):
        self.assertIs(do_look_alike(ONE, OTHER), False)
        self.assertIs(alike_holds(ONE, OTHER, ("apart", (0, 1))), True)
        self.assertIs(alike_holds(ONE, OTHER, judge_alike(ONE, OTHER)), True)
        self.assertEqual(judge_alike(ONE, OTHER)[0], "apart")

    def test_levels(self):
        heap = (((4, (1, 2), 3), 1),)
        self.assertEqual(levels_of(heap), ((1, (0, 0)), (2, (1, 0)), (4, (1, 2))))
        self.assertEqual(great_levels(heap), ((4, (1, 2)),))

    def test_arguments_by_name(self):
        self.assertIs(is_plain(heap=ONE), True)
        self.assertEqual(plain_heap(most=1, heap=SIXES), THIRDS_PLAIN)
        self.assertEqual(judge_alike(other=THIRDS, one=SIXES), ("alike", THIRDS_PLAIN))
        self.assertIs(alike_holds(thing=("apart", (0, 0)), other=(), one=ONE), True)
        self.assertIs(do_look_alike(other=SIXES, one=THIRDS), True)
        self.assertEqual(levels_of(heap=ONE), ((2, (1, 1)),))
        self.assertEqual(great_levels(heap=ONE), ((2, (1, 1)),))
        with self.assertRaises(TypeError):
            plain_heap(SIXES, 1)


class PlainStripes(unittest.TestCase):
    def test_is_plain_is_about_each_stripe(self):
        for m, breadth in ((1, 1), (1, 3), (2, 3), (3, 2), (4, 2), (6, 2), (8, 1), (9, 1), (12, 1), (30, 1)):
            for stripe in brute.stripes_of(m, breadth):
                self.assertIs(is_plain(((stripe, -7),)), brute.told_plain(stripe), stripe)
        self.assertIs(is_plain(()), True)
        self.assertIs(is_plain((((2, (1, 0), 0), 1), ((3, (1, 0), 2), 1))), False)
        self.assertIs(is_plain((((2, (1, 0), 0), 1), ((3, (1, 0), 1), 1))), True)

    def test_the_edge_of_r_in_great_periods(self):
        for m in GREAT:
            for p, q in brute.powers_of(m):
                edge = (p - 1) * q // p
                # By the other prime powers r is 0.
                by_q = m // q * pow(m // q, -1, q)
                self.assertIs(is_plain((((m, (1, 0), (edge - 1) * by_q % m), 1),)), True)
                self.assertIs(is_plain((((m, (1, 0), edge * by_q % m), 1),)), False)
                self.assertIs(is_plain((((m, ((1 + q // p * by_q) % m, 1), 0), 1),)), False)

    def test_there_are_as_many_as_cells_and_no_sum_of_them_is_zero(self):
        for side, breadth in ((1, 2), (2, 2), (3, 2), (4, 2), (2, 3), (6, 1), (12, 1), (6, 2)):
            periods = [m for m in range(1, side + 1) if side % m == 0]
            plain = [s for m in periods for s in brute.stripes_of(m, breadth) if is_plain(((s, 1),))]
            self.assertEqual(len(plain), side ** breadth)
            rows = [brute.look(((stripe, 1),), breadth, side) for stripe in plain]
            self.assertEqual(brute.solved(rows, [0] * side ** breadth), [0] * side ** breadth)


class PlainHeaps(unittest.TestCase):
    def check(self, heap, breadth, side):
        plain = plain_heap(heap)
        self.assertTrue(brute.told_heap(plain))
        self.assertTrue(all(brute.told_plain(stripe) for stripe, _ in plain))
        self.assertIs(is_plain(plain), True)
        self.assertEqual(brute.look(plain, breadth, side), brute.look(heap, breadth, side))
        self.assertEqual(plain_heap(plain), plain)
        return plain

    def test_each_small_stripe(self):
        for m, breadth in ((1, 1), (2, 3), (3, 2), (4, 2), (6, 2), (8, 1), (9, 1), (12, 1), (25, 1), (27, 1), (30, 1)):
            for stripe in brute.stripes_of(m, breadth):
                self.check(((stripe, 3),), breadth, m)

    def test_how_many_a_stripe_becomes(self):
        for m in (8, 9, 12, 25, 36, 210):
            for r in range(m):
                heap = (((m, (1,), r), -2),)
                self.assertEqual(len(plain_heap(heap)), brute.plain_pieces(heap[0][0]), (m, r))

    def test_random_heaps(self):
        maker = brute.Maker(2)
        for side, breadth in ((4, 2), (6, 2), (12, 1), (30, 1), (4, 3), (6, 3), (9, 2), (10, 2)) * 5:
            periods = [m for m in range(1, side + 1) if side % m == 0]
            self.check(maker.heap(breadth, periods, maker.rand.randrange(9), 10 ** 39), breadth, side)

    def test_the_plain_heap_is_the_only_sum_of_plain_stripes(self):
        maker = brute.Maker(3)
        for side, breadth in ((4, 2), (6, 2), (2, 3), (12, 1)):
            periods = [m for m in range(1, side + 1) if side % m == 0]
            plain = [s for m in periods for s in brute.stripes_of(m, breadth) if brute.told_plain(s)]
            rows = [brute.look(((stripe, 1),), breadth, side) for stripe in plain]
            heap = maker.heap(breadth, periods, 7)
            tints = brute.solved(rows, brute.look(heap, breadth, side))
            self.assertEqual(plain_heap(heap), brute.heap_of(dict(zip(plain, tints))))

    def test_great_periods_are_taken_apart_figure_by_figure(self):
        for m in GREAT:
            p, q = brute.powers_of(m)[-1]
            figures = 200 // (p - 1) if p > 2 else 132
            figures = min(figures, [k for k in range(200) if q == p ** k][0])
            rest = -(q // p ** figures) if q > p ** figures else -1
            r = rest * (m // q) * pow(m // q, -1, q) % m
            heap = (((m, (0, 1, 5), r), 10 ** 39),)
            plain = plain_heap(heap)
            self.assertEqual(len(plain), 1 + figures * (p - 1))
            self.assertIs(is_plain(plain), True)
            for cell in [(0, 0, 0), (7, r, 0), (-10 ** 59, r + m * 10 ** 19, 0), (1, r + m // p, 0), (0, r - 5, 1)]:
                self.assertEqual(brute.tint(plain, cell), brute.tint(heap, cell))
            for stripe, _ in plain[:3] + plain[-3:]:
                self.assertEqual(brute.tint(plain, (0, stripe[2], 0)), brute.tint(heap, (0, stripe[2], 0)))

    def test_full_heaps_of_great_periods(self):
        maker = brute.Maker(6)
        for breadth in (1, 2, 3):
            heap = brute.heap_of({maker.stripe(breadth, [maker.period(10 ** 40 - 1)]): 10 ** 40 - 1 for _ in range(24)})
            plain = plain_heap(heap)
            self.assertEqual(len(heap), 24)
            self.assertIs(is_plain(plain), True)
            for stripe, _ in heap + plain:
                number = stripe[2] * pow(stripe[1][0], -1, stripe[0]) if brute.told_stripe((stripe[0], stripe[1][:1], 0)) else 5
                cell = (number,) + (0,) * (breadth - 1)
                self.assertEqual(brute.tint(plain, cell), brute.tint(heap, cell))

    def test_four_hundred_pairs(self):
        runs = [(((2 ** (18 - k), (1, 2 * k % 2 ** (18 - k)), 2 ** (18 - k) - 1)), k + 1) for k in range(18)]
        heap = brute.heap_of(dict(runs + [((7 ** 11, (0, 1), 7 ** 11 - 1), 1), ((29 ** 5, (1, 3), 29 ** 5 - 1), 2)]))
        self.assertLessEqual(sum(brute.plain_pieces(stripe) for stripe, _ in heap), 400)
        plain = self.check(heap, 2, 1)
        self.assertGreater(len(plain), 300)
        for cell in [(-1, 0), (0, -1), (5, 6), (2 ** 18 - 1, 0), (29 ** 5 - 1 - 9, 3)]:
            self.assertEqual(brute.tint(plain, cell), brute.tint(heap, cell))

    def test_the_empty_heap(self):
        self.assertEqual(plain_heap(()), ())
        self.assertEqual(plain_heap((), most=0), ())
        nothing = (((1, (0, 0), 0), 1), ((2, (1, 0), 0), -1), ((2, (1, 0), 1), -1))
        self.assertEqual(plain_heap(nothing, most=0), ())

    def test_most_just_at_and_just_below(self):
        maker = brute.Maker(7)
        for _ in range(30):
            heap = maker.heap(2, [2, 3, 4, 6, 9, 12], 6)
            many = len(plain_heap(heap))
            self.assertEqual(plain_heap(heap, most=many), plain_heap(heap, most=4096))
            for most in (many - 1, 0):
                if 0 <= most < many:
                    with self.assertRaises(TooMany) as caught:
                        plain_heap(heap, most=most)
                    self.assertEqual(caught.exception.most, most)

    def test_most_is_4096_if_it_is_not_told(self):
        m = 2 ** 4 * 3 ** 4 * 5 ** 4 * 7 ** 3
        heap = (((m, (1,), m - 1), 1),)
        self.assertEqual(brute.plain_pieces(heap[0][0]), 5 * 9 * 17 * 19)
        with self.assertRaises(TooMany) as caught:
            plain_heap(heap)
        self.assertEqual(caught.exception.most, 4096)
        self.assertEqual(len(judge_alike(heap, heap)[1]), 5 * 9 * 17 * 19)
        run = (((2 ** 4095, (1,), 2 ** 4095 - 1), 1),)
        self.assertEqual(len(plain_heap(run)), 4096)

    def test_errors(self):
        for wrong in brute.NO_HEAPS:
            for call in (is_plain, plain_heap, lambda x: plain_heap(x, most=0), levels_of, great_levels):
                with self.assertRaises(BadHeap) as caught:
                    call(wrong)
                self.assertIs(caught.exception.thing, wrong)


class Alike(unittest.TestCase):
    def check(self, one, other, alike):
        self.assertIs(do_look_alike(one, other), alike)
        paper = judge_alike(one, other)
        self.assertIs(alike_holds(one, other, paper), True)
        if alike:
            self.assertEqual(paper, ("alike", plain_heap(one)))
            self.assertIs(alike_holds(one, other, ("alike", plain_heap(other))), True)
        else:
            self.assertEqual(len(paper), 2)
            self.assertEqual(paper[0], "apart")
            self.assertTrue(brute.told_cell(paper[1]))
            self.assertNotEqual(brute.tint(one, paper[1]), brute.tint(other, paper[1]))
            self.assertIs(alike_holds(one, other, ("alike", plain_heap(one))), False)
            self.assertIs(alike_holds(one, other, ("alike", plain_heap(other))), False)
        self.assertEqual(judge_alike(one, other), paper)
        return paper

    def test_small_heaps_in_pairs(self):
        maker = brute.Maker(8)
        seen = []
        for side, breadth in ((1, 2), (2, 2), (3, 1), (4, 1), (2, 3), (4, 2), (6, 1), (6, 2), (12, 1)) * 40:
            periods = [m for m in range(1, side + 1) if side % m == 0]
            one = maker.heap(breadth, periods, maker.rand.randrange(5), 2)
            other = maker.heap(breadth, periods, maker.rand.randrange(5), 2)
            retold = maker.retold(one, [p for p, _ in brute.powers_of(12)], 24)
            alike = brute.look(one, breadth, side) == brute.look(other, breadth, side)
            seen.extend([alike, one != retold])
            self.check(one, other, alike)
            self.check(one, retold, True)
            self.check(one, plain_heap(one), True)
        self.assertGreater(seen[::2].count(False), 100)
        self.assertGreater(seen[1::2].count(True), 100)

    def test_heaps_told_otherwise(self):
        maker = brute.Maker(16)
        for primes in ((2,), (3,), (2, 3), (5,), (2, 5, 7)) * 6:
            breadth = maker.rand.randrange(1, 4)
            one = maker.heap(breadth, [maker.period(10 ** 30, primes) for _ in range(2)], 4, 10 ** 40 - 1)
            other = maker.retold(one, primes, 20)
            self.assertNotEqual(one, other)
            if len(plain_heap(one)) <= 400:
                self.check(one, other, True)
                stripe, tint = other[maker.rand.randrange(len(other))]
                changed = {**dict(other), stripe: tint + maker.rand.choice((1, -1))}
                self.check(one, brute.heap_of(changed), False)

    def test_plain_heaps_with_one_tint_changed(self):
        maker = brute.Maker(9)
        for _ in range(60):
            breadth = maker.rand.randrange(1, 4)
            one = maker.heap(breadth, [maker.period(10 ** 40 - 1) for _ in range(3)], 4, 10 ** 40 - 1)
            other = dict(plain_heap(one, most=10 ** 6))
            if len(other) < 400:
                self.check(one, brute.heap_of(other), True)
                stripe = maker.rand.choice(sorted(other))
                other[stripe] += maker.rand.choice((1, -1, -other[stripe]))
                self.check(one, brute.heap_of(other), False)

    def test_full_heaps_with_great_periods(self):
        maker = brute.Maker(10)
        for breadth in (1, 2, 3):
            for primes in (brute.PRIMES, (2,), (2, 3), (23, 29), (7, 11)):
                one = maker.heap(breadth, [maker.period(10 ** 40 - 1, primes) for _ in range(6)], 12, 10 ** 40 - 1)
                other = maker.heap(breadth, [maker.period(10 ** 40 - 1, primes) for _ in range(6)], 12, 10 ** 40 - 1)
                paper = self.check(one, other, False)
                self.assertLess(max(abs(number) for number in paper[1]), 10 ** 60)

    def test_one_stripe_moved_by_one(self):
        for m in GREAT:
            for breadth in (1, 2, 3):
                c = (1, 10, 3)[:breadth]
                for r, s in ((0, 1), (m - 1, 0), (m // 2, m // 2 + 1), (m - 2, m - 1)):
                    # The plain heaps of r = m - 1 may be long, yet those of one stripe are enough to part.
                    if brute.plain_pieces((m, c, r)) + brute.plain_pieces((m, c, s)) <= 800:
                        self.check((((m, c, r), 1),), (((m, c, s), 1),), False)

    def test_empty_heaps(self):
        self.check((), (), True)
        self.assertEqual(judge_alike((), ()), ("alike", ()))
        for heap in (ONE, WALK, ROOM, (((1, (0, 0), 0), -1),), (((1, (0, 0, 0), 0), 10 ** 39),)):
            self.check(heap, (), False)
            self.check((), heap, False)
            self.assertEqual(len(judge_alike((), heap)[1]), len(heap[0][0][1]))
        nothing = (((1, (0, 0), 0), 1), ((2, (1, 0), 0), -1), ((2, (1, 0), 1), -1))
        self.check(nothing, (), True)

    def test_errors_in_their_order(self):
        for wrong in brute.NO_HEAPS:
            for call in (judge_alike, do_look_alike, lambda x, y: alike_holds(x, y, ("alike", ()))):
                for one, other in ((wrong, ONE), (wrong, ()), (wrong, WALK), (wrong, [5]), (ONE, wrong), ((), wrong)):
                    with self.assertRaises(BadHeap) as caught:
                        call(one, other)
                    self.assertIs(caught.exception.thing, wrong)

    def test_unlike_breadths(self):
        for one, other in itertools.permutations((ONE, WALK, ROOM), 2):
            for call in (judge_alike, do_look_alike, lambda x, y: alike_holds(x, y, None)):
                with self.assertRaises(OtherBreadth) as caught:
                    call(one, other)
                self.assertIs(caught.exception.thing, other)


class HardToPart(unittest.TestCase):
    """Heaps that have the same tint nearly everywhere, so that no cell is found but by a search."""

    def leaf(self, maker, root, primes, pairs):
        """The root less all but one of the stripes that it is made of, again and again, and the one."""
        tints, left = {root: 1}, root
        while True:
            p = maker.rand.choice(primes)
            if len(tints) + p - 1 > pairs or left[0] * p >= 10 ** 40:
                return tints, left
            children = maker.parted(left, p)
            maker.rand.shuffle(children)
            left = children.pop()
            tints.update({child: -1 for child in children})

    def part(self, heap):
        for one, other in ((heap, ()), ((), heap), (heap[:12], tuple((s, -t) for s, t in heap[12:]))):
            paper = judge_alike(one, other)
            self.assertEqual(paper[0], "apart")
            self.assertNotEqual(brute.tint(one, paper[1]), brute.tint(other, paper[1]))
            self.assertIs(alike_holds(one, other, paper), True)
        return paper[1]

    def test_one_leaf_of_a_tree(self):
        maker = brute.Maker(11)
        for primes in ((2,), (3,), (5,), (2, 3), (2, 7), (23,), (11, 2), (2, 3, 5, 7), (2, 17)) * 3:
            breadth = maker.rand.randrange(1, 4)
            tints, left = self.leaf(maker, (1, (0,) * breadth, 0), primes, 24)
            cell = self.part(brute.heap_of(tints))
            self.assertTrue(brute.on(left, cell))

    def test_leaves_of_two_trees_of_great_periods(self):
        maker = brute.Maker(12)
        for primes in ((2,), (3,), (2, 3), (2, 7), (11,), (2, 3, 5), (2, 3, 5, 7)) * 4:
            breadth = maker.rand.randrange(1, 4)
            root = maker.stripe(breadth, [maker.period(10 ** 34, primes)])
            tints, _ = self.leaf(maker, root, primes, 12)
            root = maker.stripe(breadth, [maker.period(10 ** 30, primes)])
            more, _ = self.leaf(maker, root, primes, 12)
            heap = brute.heap_of({**tints, **{stripe: -tint for stripe, tint in more.items()}})
            if len(plain_heap(heap)) <= 400:
                self.part(heap)

    def test_leaves_that_outweigh_each_other(self):
        # 4 times the cells that are 6 by 8, less 9 times those that are 16 by 18: the mean is 0 by 2, too.
        heap = (
            ((2, (1,), 0), -5), ((4, (1,), 0), -4), ((6, (1,), 0), 9), ((6, (1,), 2), 9), ((8, (1,), 2), -4),
            ((18, (1,), 4), 9), ((18, (1,), 10), 9),
        )
        self.assertEqual([x for x in range(40) if brute.tint(heap, (x,))], [6, 14, 16, 22, 30, 34, 38])
        self.part(heap)

    def test_leaves_of_unlike_shares(self):
        # The cells that are 7 by 8, and those that are 2 by 3.
        heap = (
            ((1, (0,), 0), 2), ((2, (1,), 0), -1), ((3, (1,), 0), -1), ((3, (1,), 1), -1), ((4, (1,), 1), -1),
            ((8, (1,), 3), -1),
        )
        self.assertEqual([x for x in range(16) if brute.tint(heap, (x,))], [2, 5, 7, 8, 11, 14, 15])
        self.part(heap)

    def test_nothing_left_of_a_tree(self):
        maker = brute.Maker(13)
        for primes in ((2,), (3,), (2, 3), (2, 7), (23,), (2, 3, 5, 7)) * 3:
            breadth = maker.rand.randrange(1, 4)
            root = maker.stripe(breadth, [maker.period(10 ** 20, primes)])
            tints, left = self.leaf(maker, root, primes, 23)
            tints[left] = tints.get(left, 0) - 1
            heap = brute.heap_of(tints)
            self.assertEqual(judge_alike(heap, ()), ("alike", ()))
            one = tuple((stripe, tint) for stripe, tint in heap if tint > 0)
            other = tuple((stripe, -tint) for stripe, tint in heap if tint < 0)
            self.assertEqual(judge_alike(one, other), ("alike", plain_heap(other)))


class Papers(unittest.TestCase):
    """alike_holds for any values."""

    def told_right(self, one, other, breadth, side, thing):
        """[2.5] by its words, for heaps whose periods divide the side."""
        if not isinstance(thing, tuple) or len(thing) != 2 or not isinstance(thing[0], str):
            return False
        if thing[0] == "apart" and brute.told_cell(thing[1]) and len(thing[1]) == breadth:
            return brute.tint(one, thing[1]) != brute.tint(other, thing[1])
        if thing[0] == "alike" and brute.told_heap(thing[1]):
            if not all(brute.told_plain(s) and len(s[1]) == breadth and side % s[0] == 0 for s, _ in thing[1]):
                return False
            told = brute.look(thing[1], breadth, side)
            return told == brute.look(one, breadth, side) == brute.look(other, breadth, side)
        return False

    def test_papers_wrong_at_one_place(self):
        pairs = [(SIXES, THIRDS, 6), (ONE, OTHER, 2), ((((2, (1, 0), 1), 5),), (((2, (1, 0), 1), 5),), 2), ((), ONE, 2)]
        pairs.append(((((4, (1, 2), 3), 1),), (((4, (3, 2), 1), 1),), 4))
        for one, other, side in pairs:
            paper = judge_alike(one, other)
            self.assertTrue(self.told_right(one, other, 2, side, paper))
            for thing in brute.spoiled(paper):
                told = alike_holds(one, other, thing)
                self.assertIs(told, self.told_right(one, other, 2, side, thing), thing)

    def test_any_values(self):
        for one, other in ((SIXES, THIRDS), (ONE, OTHER), ((), ()), ((), ROOM)):
            for thing in brute.NO_HEAPS + [5, (), ("alike",), ("apart",), ("never", ()), "alike"]:
                self.assertIs(alike_holds(one, other, thing), False)
            for told in brute.NO_CELLS:
                self.assertIs(alike_holds(one, other, ("apart", told)), False)
            for told in brute.NO_HEAPS:
                self.assertIs(alike_holds(one, other, ("alike", told)), False)

    def test_bools_and_lists_in_papers(self):
        one = (((1, (0, 0), 0), 1),)
        self.assertIs(alike_holds(one, one, ("alike", (((1, (0, 0), 0), 1),))), True)
        for heap in ((((1, (0, 0), 0), True),), (((True, (0, 0), 0), 1),), (((1, (0, False), 0), 1),),
                     (((1, (0, 0), False), 1),), [((1, (0, 0), 0), 1)], ([(1, (0, 0), 0), 1],), (((1, [0, 0], 0), 1),)):
            self.assertIs(alike_holds(one, one, ("alike", heap)), False)
        self.assertIs(alike_holds(one, one, ["alike", one]), False)
        for cell in ((0, 1), (-10 ** 60, 0), (10 ** 99, 1)):
            self.assertIs(alike_holds(one, (), ("apart", cell)), True)
        for cell in ((0, True), (False, 0), [0, 1], (0,), (0, 0, 0), ()):
            self.assertIs(alike_holds(one, (), ("apart", cell)), False)

    def test_the_heap_of_a_paper_is_to_be_plain(self):
        self.assertIs(alike_holds(SIXES, THIRDS, ("alike", THIRDS)), False)
        self.assertIs(alike_holds(SIXES, THIRDS, ("alike", SIXES)), False)
        self.assertIs(alike_holds(THIRDS, THIRDS, ("alike", THIRDS)), False)

    def test_all_cells_of_a_box(self):
        maker = brute.Maker(14)
        for _ in range(30):
            one = maker.heap(2, [2, 3, 4, 6], 4)
            other = maker.heap(2, [2, 3, 4, 6], 4)
            for cell in itertools.product(range(-3, 4), repeat=2):
                parts = brute.tint(one, cell) != brute.tint(other, cell)
                self.assertIs(alike_holds(one, other, ("apart", cell)), parts)
                self.assertIs(alike_holds(one, one, ("apart", cell)), False)


class Levels(unittest.TestCase):
    def test_levels_of_random_heaps(self):
        maker = brute.Maker(15)
        for breadth in (1, 2, 3) * 20:
            heap = maker.heap(breadth, [1, 2, 3, 4, 6, 8, 9, 12, 18], 4)
            levels = tuple(sorted({(m, c) for (m, c, _), _ in plain_heap(heap)}))
            self.assertEqual(levels_of(heap), levels)
            great = [a for a in levels if not any(a != b and within(a, b) for b in levels)]
            self.assertEqual(great_levels(heap), tuple(great))
            self.assertEqual(great_levels(plain_heap(heap)), tuple(great))

    def test_levels_are_of_the_look(self):
        self.assertEqual(levels_of(SIXES), ((3, (1, 1)),))
        self.assertEqual(great_levels(SIXES), ((3, (1, 1)),))
        self.assertEqual(levels_of((((5, (2, 4), 1), 1),)), ((5, (1, 2)),))

    def test_great_levels_side_by_side(self):
        heap = (((2, (1, 0), 0), 1), ((3, (0, 1), 0), 1), ((4, (1, 1), 0), 1), ((6, (3, 2), 0), 1))
        self.assertEqual(levels_of(heap), ((2, (1, 0)), (3, (0, 1)), (4, (1, 1)), (6, (3, 4))))
        self.assertEqual(great_levels(heap), ((4, (1, 1)), (6, (3, 4))))

    def test_great_periods(self):
        heap = (((2 ** 132, (1, 2), 2 ** 132 - 1), 1),)
        self.assertEqual(levels_of(heap), tuple((2 ** k, (1 % 2 ** k, 2 % 2 ** k)) for k in range(133)))
        self.assertEqual(great_levels(heap), ((2 ** 132, (1, 2)),))

    def test_no_levels(self):
        self.assertEqual(levels_of(()), ())
        self.assertEqual(great_levels(()), ())
        nothing = (((1, (0, 0), 0), 1), ((2, (1, 0), 0), -1), ((2, (1, 0), 1), -1))
        self.assertEqual(levels_of(nothing), ())
        self.assertEqual(great_levels(nothing), ())
        self.assertEqual(levels_of((((1, (0,), 0), 4),)), ((1, (0,)),))


class Interface(unittest.TestCase):
    def test_defined_in_its_file(self):
        for name in ("is_plain", "plain_heap", "judge_alike", "alike_holds", "do_look_alike", "levels_of", "great_levels"):
            self.assertEqual(getattr(looks, name).__module__, "slantpanes.looks")


if __name__ == "__main__":
    unittest.main()
