"""Part 8: tints told back from looks."""

import itertools
import math
import time
import unittest
from fractions import Fraction

import brute
from slantpanes import lookers
from slantpanes.looks import plain_heap
from slantpanes.lookers import are_enough, enough_looks, fit_holds, judge_fit, judge_sure, rank_of, sure_holds
from slantpanes.stripes import normal_stripe

TOLD = ((1, (0, 0), 0), (2, (1, 0), 0))
HALVES = ((2, (0, 1), 0), (2, (1, 0), 0), (2, (1, 1), 0))
FOUR = ((0, 0), (0, 1), (1, 0), (1, 1))
NEVER = ((1, 2), (-1, 2), (-1, 2), (-1, 2))
GREAT = [2 ** 132, 210 ** 17, 6 ** 51, 29 ** 27, 10 ** 39]
NO_TOLD = brute.NOTHING_OF_ALL + [
    (), (2, (1, 0), 0), list(TOLD), [TOLD[0]], TOLD[::-1], (TOLD[0], TOLD[0]), (*TOLD, None), (None, *TOLD), (5, TOLD[0]),
    (TOLD[0], (2, (1,), 0)), ((1, (0,), 0), (2, (1, 0), 0)), ((5, (1, 2), 1), (5, (2, 4), 2)), (brute.YARD, TOLD[0]),
    ((3, (1, 0), 0), (3, (2, 0), 0)), tuple((23, (1, 0), r) for r in range(13)), ((2, (1, 1), 0), (2, (1, 0), 0)), 7,
] + [(TOLD[0], wrong) for wrong in brute.NO_STRIPES] + [(wrong, TOLD[1]) for wrong in brute.NO_STRIPES]
NO_LOOKS = brute.NOTHING_OF_ALL + [
    (0, 0), [(0, 0)], ([0, 0],), ((0, 0), None), ((0, 0), 5), (5, (0, 0)), ((0, 0),) * 25, ((0,),), ((0, 0), (0, 0, 0)), 0,
    ((0, True),), ((0, 0), (False, 0)), (((0, 0),),), ((0, "0"),), ((0, brute.YARD),),
]


def matrix(stripes, cells):
    return [[int(brute.on(stripe, cell)) for stripe in stripes] for cell in cells]


def rank(rows):
    """The rank by elimination with fractions."""
    table = [[Fraction(number) for number in row] for row in rows]
    done = 0
    for column in range(len(table[0]) if table else 0):
        at = next((k for k in range(done, len(table)) if table[k][column] != 0), None)
        if at is None:
            continue
        table[done], table[at] = table[at], table[done]
        for k in range(done + 1, len(table)):
            factor = table[k][column] / table[done][column]
            table[k] = [a - factor * b for a, b in zip(table[k], table[done])]
        done += 1
    return done


def told_fractions(thing, many):
    """Fractions as they may be passed: not only in lowest terms."""
    if not isinstance(thing, tuple) or len(thing) != many:
        return False
    pairs = all(isinstance(item, tuple) and len(item) == 2 for item in thing)
    return pairs and all(all(brute.is_whole(number) for number in item) and item[1] >= 1 for item in thing)


def sums(stripes, looks, fractions):
    return [sum(Fraction(*part) for part, cell in zip(fractions, looks) if brute.on(stripe, cell)) for stripe in stripes]


def told_sure(stripes, looks, cell, thing):
    """Right papers of [8.2] by its words."""
    if not isinstance(thing, tuple) or len(thing) != 2:
        return False
    if thing[0] == "sure":
        wanted = [int(brute.on(stripe, cell)) for stripe in stripes]
        return told_fractions(thing[1], len(looks)) and sums(stripes, looks, thing[1]) == wanted
    if thing[0] != "open" or not brute.told_heap(thing[1]) or any(stripe not in stripes for stripe, _ in thing[1]):
        return False
    return all(brute.tint(thing[1], look) == 0 for look in looks) and brute.tint(thing[1], cell) != 0


def told_fit(stripes, looks, tints, thing):
    """Right papers of [8.3] by its words."""
    if not isinstance(thing, tuple) or len(thing) != 2:
        return False
    if thing[0] == "fits":
        if not brute.told_heap(thing[1]) or any(stripe not in stripes for stripe, _ in thing[1]):
            return False
        return all(brute.tint(thing[1], look) == tint for look, tint in zip(looks, tints))
    if thing[0] != "never" or not told_fractions(thing[1], len(looks)):
        return False
    if any(number.denominator > 1 for number in map(Fraction, sums(stripes, looks, thing[1]))):
        return False
    return Fraction(sum(tint * Fraction(*part) for tint, part in zip(tints, thing[1]))).denominator > 1


def made_told(maker, breadth, periods, most):
    """At most so many told stripes."""
    found = {}
    for _ in range(most):
        stripe = maker.stripe(breadth, periods)
        found.setdefault(normal_stripe(stripe), stripe)
    return tuple(sorted(found.values()))


def made_looks(maker, breadth, most, greatest=4):
    many = maker.rand.randrange(most + 1)
    return tuple(tuple(maker.rand.randrange(-greatest, greatest) for _ in range(breadth)) for _ in range(many))


def tints_of(heap, looks):
    return tuple(brute.tint(heap, look) for look in looks)


class Examples(unittest.TestCase):
    def test_sure(self):
        paper = judge_sure(TOLD, ((0, 0),), (1, 0))
        self.assertEqual(paper[0], "open")
        self.assertIs(sure_holds(TOLD, ((0, 0),), (1, 0), ("open", ((TOLD[0], 1), (TOLD[1], -1)))), True)
        self.assertEqual(judge_sure(TOLD, ((0, 0), (3, 0)), (1, 0)), ("sure", ((0, 1), (1, 1))))

    def test_fit(self):
        self.assertEqual(judge_fit(HALVES, FOUR, (1, 0, 0, 0))[0], "never")
        self.assertIs(fit_holds(HALVES, FOUR, (1, 0, 0, 0), ("never", NEVER)), True)
        unlowered = ((3, 6), (-5, 10), (-1, 2), (-2, 4))
        self.assertIs(fit_holds(HALVES, FOUR, (1, 0, 0, 0), ("never", unlowered)), True)
        self.assertEqual(rank_of(HALVES), 3)
        self.assertIs(are_enough(HALVES, FOUR[1:]), True)

    def test_arguments_by_name(self):
        self.assertEqual(judge_sure(cell=(1, 0), looks=((0, 0),), stripes=TOLD)[0], "open")
        paper = ("sure", ((0, 1), (1, 1)))
        self.assertIs(sure_holds(thing=paper, cell=(1, 0), looks=((0, 0), (3, 0)), stripes=TOLD), True)
        self.assertEqual(judge_fit(tints=(5,), looks=((0, 0),), stripes=TOLD)[0], "fits")
        self.assertIs(fit_holds(thing=("fits", ()), tints=(), looks=(), stripes=TOLD), True)
        self.assertIs(are_enough(looks=FOUR, stripes=HALVES), True)
        self.assertEqual(rank_of(stripes=HALVES), 3)
        self.assertEqual(len(enough_looks(stripes=HALVES)), 3)

    def test_defined_in_its_file(self):
        for name in ("judge_sure", "sure_holds", "judge_fit", "fit_holds", "are_enough", "rank_of", "enough_looks"):
            self.assertEqual(getattr(lookers, name).__module__, "slantpanes.lookers")


class Sure(unittest.TestCase):
    def check(self, stripes, looks, cell):
        paper = judge_sure(stripes, looks, cell)
        self.assertEqual(judge_sure(stripes, looks, cell), paper)
        self.assertTrue(told_sure(stripes, looks, cell, paper), (stripes, looks, cell, paper))
        self.assertIs(sure_holds(stripes, looks, cell, paper), True)
        if paper[0] == "sure":
            self.assertTrue(all(brute.told_fraction(part) for part in paper[1]))
        return paper

    def test_random_looks(self):
        maker = brute.Maker(401)
        kinds = []
        for trial in range(300):
            breadth = trial % 3 + 1
            periods = maker.rand.choice([[2, 3, 4], [1, 2], [6, 4], [30, 15], [2, 3, 5, 7]])
            stripes = made_told(maker, breadth, periods, maker.rand.randrange(1, 13))
            looks = made_looks(maker, breadth, 24)
            cell = tuple(maker.rand.randrange(-4, 4) for _ in range(breadth))
            paper = self.check(stripes, looks, cell)
            kinds.append(paper[0])
            heap = brute.heap_of({stripe: maker.rand.randrange(-9, 10) for stripe in stripes})
            if paper[0] == "sure":
                told = sum(tint * Fraction(*part) for tint, part in zip(tints_of(heap, looks), paper[1]))
                self.assertEqual(told, brute.tint(heap, cell))
        self.assertGreater(kinds.count("sure"), 60)
        self.assertGreater(kinds.count("open"), 60)

    def test_no_looks_at_all(self):
        self.assertEqual(judge_sure(HALVES[:2], (), (1, 1)), ("sure", ()))
        self.assertEqual(self.check(HALVES[:2], (), (1, 0))[0], "open")
        self.assertIs(sure_holds(HALVES[:2], (), (1, 1), ("open", ())), False)

    def test_a_look_twice_and_told_stripes_seen_alike(self):
        self.assertEqual(self.check(TOLD, ((0, 0),) * 24, (2, 0))[0], "sure")
        self.assertEqual(self.check(TOLD, ((0, 0),) * 24, (1, 0))[0], "open")
        self.assertIs(sure_holds(TOLD, ((0, 0),) * 2, (2, 0), ("sure", ((5, 10), (1, 2)))), True)
        self.assertIs(sure_holds(TOLD, ((0, 0),) * 2, (2, 0), ("sure", ((7, 1), (-6, 1)))), True)
        self.assertIs(sure_holds(TOLD, ((0, 0),) * 2, (2, 0), ("sure", ((7, 1), (-6, -1)))), False)

    def test_numbers_at_the_ends_of_the_limits(self):
        maker = brute.Maker(402)
        for breadth in (1, 2, 3):
            begin = time.perf_counter()
            for _ in range(10):
                looks = made_looks(maker, breadth, 24, 10 ** 59)
                stripes = {}
                for m in GREAT * 2:
                    cell = maker.rand.choice((*looks, (0,) * breadth))
                    _, c, _ = maker.stripe(breadth, [m])
                    stripe = (m, c, sum(a * b for a, b in zip(c, cell)) % m)
                    stripes[normal_stripe(stripe)] = stripe
                stripes = tuple(sorted(stripes.values()))
                self.check(stripes, looks, maker.rand.choice((*looks, (5,) * breadth)))
            self.assertLess(time.perf_counter() - begin, 5)

    def test_wrong_papers(self):
        maker = brute.Maker(403)
        for trial in range(40):
            breadth = trial % 3 + 1
            stripes = made_told(maker, breadth, [2, 3, 4], maker.rand.randrange(1, 6))
            looks = made_looks(maker, breadth, 5)
            cell = tuple(maker.rand.randrange(4) for _ in range(breadth))
            for thing in brute.spoiled(judge_sure(stripes, looks, cell)):
                self.assertIs(sure_holds(stripes, looks, cell, thing), told_sure(stripes, looks, cell, thing), thing)
        looks = ((0, 0), (3, 0))
        for thing in brute.NO_HEAPS + ["sure", ("sure",), ["sure", ((0, 1), (1, 1))], ("open", ())]:
            self.assertIs(sure_holds(TOLD, looks, (1, 0), thing), False)
            self.assertIs(sure_holds(TOLD, looks, (1, 0), ("sure", thing)), False)
            self.assertIs(sure_holds(TOLD, looks, (1, 0), ("sure", ((0, 1), thing))), False)
            self.assertIs(sure_holds(TOLD, looks[:1], (1, 0), ("open", thing)), False)
        for fractions in (((0, 1), (1, True)), ((False, 1), (1, 1)), ((0, -1), (1, 1)), ((0, 1), (1, 0)), [(0, 1), (1, 1)],
                          ((0, 1), [1, 1]), ((0, 1), (1, 1), (0, 1)), ((0, 1),), ((0, 1), (1, 2)), ((0, 1, 1), (1, 1))):
            self.assertIs(sure_holds(TOLD, looks, (1, 0), ("sure", fractions)), False, fractions)
        self.assertIs(sure_holds(TOLD, looks, (1, 0), ("sure", ((0, 10 ** 99), (10 ** 99, 10 ** 99)))), True)
        # As it is written among the told stripes: (3, (2, 0), 0) has the same cells as (3, (1, 0), 0).
        told = ((1, (0, 0), 0), (3, (1, 0), 0))
        self.assertIs(sure_holds(told, looks, (1, 0), ("open", ((told[0], 1), (told[1], -1)))), True)
        self.assertIs(sure_holds(told, looks, (1, 0), ("open", ((told[0], 1), ((3, (2, 0), 0), -1)))), False)

    def test_errors_in_their_order(self):
        for call in (lambda stripes, looks, cell: judge_sure(stripes, looks, cell),
                     lambda stripes, looks, cell: sure_holds(stripes, looks, cell, ("sure", ()))):
            for wrong in NO_TOLD:
                name, told = brute.raised(call, wrong, None, None)
                self.assertEqual(name, "BadStripes")
                self.assertIs(told["thing"], wrong)
            for wrong in NO_LOOKS:
                name, told = brute.raised(call, TOLD, wrong, None)
                self.assertEqual(name, "BadLooks")
                self.assertIs(told["thing"], wrong)
            for wrong in brute.NO_CELLS + [(1,), (1, 2, 3)]:
                name, told = brute.raised(call, TOLD, ((0, 0),), wrong)
                self.assertEqual(name, "BadCell")
                self.assertIs(told["thing"], wrong)


class Fitting(unittest.TestCase):
    def check(self, stripes, looks, tints):
        paper = judge_fit(stripes, looks, tints)
        self.assertEqual(judge_fit(stripes, looks, tints), paper)
        self.assertTrue(told_fit(stripes, looks, tints, paper), (stripes, looks, tints, paper))
        self.assertIs(fit_holds(stripes, looks, tints, paper), True)
        if paper[0] == "never":
            self.assertTrue(all(brute.told_fraction(part) for part in paper[1]))
        return paper

    def test_random_looks(self):
        maker = brute.Maker(404)
        kinds = []
        for trial in range(300):
            breadth = trial % 3 + 1
            periods = maker.rand.choice([[2, 3, 4], [1, 2], [6, 4], [2], [2, 3, 5, 7]])
            stripes = made_told(maker, breadth, periods, maker.rand.randrange(1, 13))
            looks = made_looks(maker, breadth, 24)
            heap = brute.heap_of({stripe: maker.rand.randrange(-10 ** 39, 10 ** 39) for stripe in stripes})
            tints = tints_of(heap, looks)
            self.assertEqual(self.check(stripes, looks, tints)[0], "fits")
            # The tint at one look is changed: as far as it is sure from the others, this fits no more.
            if looks:
                at = maker.rand.randrange(len(looks))
                changed = (*tints[:at], tints[at] + 1, *tints[at + 1:])
                kinds.append(self.check(stripes, looks, changed)[0])
        self.assertGreater(kinds.count("never"), 60)
        self.assertGreater(kinds.count("fits"), 20)

    def test_fractions_fit_but_no_integers(self):
        kinds = []
        maker = brute.Maker(405)
        for _ in range(60):
            looks = tuple(itertools.product((0, 1), repeat=3))
            stripes = tuple(sorted(maker.rand.sample([s for s in brute.stripes_of(2, 3) if s[2] == 0], 7)))
            tints = tuple(maker.rand.randrange(-3, 4) for _ in looks)
            kinds.append(self.check(stripes, looks[1:], tints[1:])[0])
        self.assertIn("never", kinds)
        self.assertEqual(self.check(HALVES, FOUR[1:], (1, 0, 0))[0], "fits")
        self.assertEqual(self.check(HALVES, FOUR, (3, 1, 1, 1))[0], "fits")
        self.assertEqual(self.check(HALVES, FOUR, (2, 1, 1, 1))[0], "never")

    def test_small_tints_one_by_one(self):
        for tints in itertools.product(range(-1, 2), repeat=4):
            fits = any(
                all(sum(x for stripe, x in zip(HALVES, some) if brute.on(stripe, look)) == tint for look, tint in zip(FOUR, tints))
                for some in itertools.product(range(-3, 4), repeat=3)
            )
            self.assertEqual(self.check(HALVES, FOUR, tints)[0], "fits" if fits else "never")

    def test_an_unknown_heap_that_is_empty(self):
        self.assertEqual(judge_fit(HALVES, FOUR, (0, 0, 0, 0)), ("fits", ()))
        self.assertEqual(judge_fit(HALVES, (), ()), ("fits", ()))
        self.assertIs(fit_holds(HALVES, (), (), ("fits", ((HALVES[0], 5),))), True)
        self.assertIs(fit_holds(HALVES, (), (), ("never", ())), False)

    def test_a_look_twice(self):
        self.assertEqual(self.check(TOLD, ((0, 0), (0, 0)), (7, 7))[0], "fits")
        self.assertEqual(self.check(TOLD, ((0, 0), (0, 0)), (7, 8))[0], "never")
        self.assertEqual(self.check(TOLD, ((0, 0), (0, 2)) * 12, (10 ** 40 - 1,) * 24)[0], "fits")

    def test_looks_that_no_stripe_covers(self):
        self.assertEqual(self.check(HALVES[:2], ((1, 1),), (0,))[0], "fits")
        self.assertEqual(self.check(HALVES[:2], ((1, 1),), (-4,))[0], "never")

    def test_numbers_at_the_ends_of_the_limits(self):
        maker = brute.Maker(406)
        begin = time.perf_counter()
        for trial in range(30):
            breadth = trial % 3 + 1
            stripes = made_told(maker, breadth, [2, 3, 4, 6, 12], 12)
            looks = tuple(tuple(maker.rand.randrange(10 ** 59) for _ in range(breadth)) for _ in range(24))
            self.check(stripes, looks, tuple(maker.rand.randrange(-10 ** 40, 10 ** 40) for _ in looks))
            heap = brute.heap_of({stripe: maker.rand.randrange(10 ** 38) for stripe in stripes})
            self.assertEqual(self.check(stripes, looks, tints_of(heap, looks))[0], "fits")
        self.assertLess(time.perf_counter() - begin, 10)

    def test_wrong_papers(self):
        maker = brute.Maker(407)
        for trial in range(40):
            breadth = trial % 3 + 1
            stripes = made_told(maker, breadth, [2, 3, 4], maker.rand.randrange(1, 6))
            looks = made_looks(maker, breadth, 5)
            tints = tuple(maker.rand.randrange(2) for _ in looks)
            for thing in brute.spoiled(judge_fit(stripes, looks, tints)):
                self.assertIs(fit_holds(stripes, looks, tints, thing), told_fit(stripes, looks, tints, thing), thing)
        for thing in brute.NO_HEAPS + ["never", ("never",), ["never", NEVER]]:
            self.assertIs(fit_holds(HALVES, FOUR, (1, 0, 0, 0), thing), False)
            self.assertIs(fit_holds(HALVES, FOUR, (1, 0, 0, 0), ("never", thing)), False)
            self.assertIs(fit_holds(HALVES, FOUR, (3, 1, 1, 1), ("fits", thing)), False)

    def test_errors_in_their_order(self):
        for call in (judge_fit, lambda stripes, looks, tints: fit_holds(stripes, looks, tints, ("fits", ()))):
            for wrong in NO_TOLD:
                name, told = brute.raised(call, wrong, None, None)
                self.assertEqual(name, "BadStripes")
                self.assertIs(told["thing"], wrong)
            for wrong in NO_LOOKS:
                name, told = brute.raised(call, TOLD, wrong, None)
                self.assertEqual(name, "BadLooks")
                self.assertIs(told["thing"], wrong)
            for wrong in brute.NOTHING_OF_ALL + [(), (1, 2, 3), [1, 2], (1, True), (1, None), (1, (2,)), 5, (1, brute.YARD)]:
                if wrong != ((1,),):
                    name, told = brute.raised(call, TOLD, ((0, 0), (1, 0)), wrong)
                    self.assertEqual(name, "BadTints")
                    self.assertIs(told["thing"], wrong)


class Enough(unittest.TestCase):
    def check(self, stripes):
        many = rank_of(stripes)
        looks = enough_looks(stripes)
        self.assertEqual(enough_looks(stripes), looks)
        self.assertEqual(len(looks), many)
        self.assertTrue(all(brute.told_cell(cell) and len(cell) == len(stripes[0][1]) for cell in looks))
        self.assertIs(are_enough(stripes, looks), True)
        for at in range(many):
            self.assertIs(are_enough(stripes, looks[:at] + looks[at + 1:]), False)
        return many

    def test_small_stripes_by_all_cells_of_a_box(self):
        maker = brute.Maker(408)
        ranks = []
        for trial in range(120):
            breadth = trial % 3 + 1
            stripes = made_told(maker, breadth, maker.rand.choice([[2], [1, 2], [3], [2, 4], [6, 3, 2]]), 12)
            cells = list(brute.box(breadth, math.lcm(*[stripe[0] for stripe in stripes])))
            wanted = rank(matrix(stripes, cells))
            self.assertEqual(self.check(stripes), wanted)
            ranks.append(wanted < len(stripes))
            looks = made_looks(maker, breadth, 24)
            enough = rank(matrix(stripes, looks)) == wanted
            self.assertIs(are_enough(stripes, looks), enough)
            sure = [judge_sure(stripes, looks, cell)[0] == "sure" for cell in cells]
            self.assertIs(all(sure), enough)
        self.assertIn(True, ranks)
        self.assertIn(False, ranks)

    def test_periods_up_to_thirty(self):
        maker = brute.Maker(409)
        periods = [m for m in range(1, 31) if brute.told_period(m)]
        for trial in range(30):
            breadth = trial % 3 + 1
            stripes = made_told(maker, breadth, periods, 12)
            if sum(brute.plain_pieces(stripe) for stripe in stripes) <= 400:
                begin = time.perf_counter()
                self.check(stripes)
                self.assertLess(time.perf_counter() - begin, 5)

    def test_rank_is_that_of_the_plain_heaps(self):
        maker = brute.Maker(410)
        for _ in range(40):
            stripes = made_told(maker, maker.rand.randrange(1, 4), maker.rand.choice([[2, 4], [6], [12, 6], [30], [9, 3]]), 12)
            plain = [dict(plain_heap(((stripe, 1),))) for stripe in stripes]
            parts = sorted({part for heap in plain for part in heap})
            self.assertEqual(rank_of(stripes), rank([[heap.get(part, 0) for part in parts] for heap in plain]))

    def test_families_are_dependent(self):
        for m in (2, 3, 5, *GREAT):
            p = min(p for p, _ in brute.powers_of(m))
            family = [(m, (1, 2 % m), r) for r in range(0, m, m // p)][:11]
            whole = (m // p, (1 % (m // p), 2 % (m // p)), 0)
            stripes = tuple(sorted([whole, *family]))
            self.assertEqual(rank_of(stripes), p if p <= 11 else 12)

    def test_no_looks(self):
        self.assertIs(are_enough(HALVES, ()), False)
        self.assertIs(are_enough(((1, (0,), 0),), ()), False)
        self.assertEqual(rank_of(((1, (0,), 0),)), 1)
        self.assertEqual(len(enough_looks(((1, (0, 0, 0), 0),))), 1)

    def test_errors(self):
        for wrong in NO_TOLD:
            for call in (rank_of, enough_looks, lambda told: are_enough(told, None)):
                name, told = brute.raised(call, wrong)
                self.assertEqual(name, "BadStripes")
                self.assertIs(told["thing"], wrong)
        for wrong in NO_LOOKS:
            name, told = brute.raised(are_enough, TOLD, wrong)
            self.assertEqual(name, "BadLooks")
            self.assertIs(told["thing"], wrong)


if __name__ == "__main__":
    unittest.main()
