"""Part 11: promises, and random deals beside dicts and lists of the tests' own."""

import time
import unittest
from fractions import Fraction

import brute
from glazier import A, MEAN, NO_PROMISES, WALK, Cases, made, made_heap, made_promise, told_fault, told_kept, with_promises
from slantpanes.looks import alike_holds, plain_heap
from slantpanes.panes import judge_panes
from slantpanes.yards import Yard, fault_holds


class Promises(Cases):
    def test_judged_and_faults(self):
        maker = brute.Maker(1101)
        kinds = {}
        for _ in range(500):
            heaps = {name: made_heap(maker, maker.rand.randrange(1, 4)) for name in ("a", "b", "c")}
            if maker.rand.randrange(2):
                heaps["b"] = plain_heap(heaps["a"]) or heaps["b"]
            if maker.rand.randrange(2):
                heaps["c"] = tuple((stripe, abs(tint)) for stripe, tint in heaps["c"])
            yard = made(**heaps)
            promise = made_promise(maker, heaps)
            judged = yard.judged(promise)
            kept = told_kept(heaps, promise)
            kinds.setdefault((promise[0], kept), 0)
            kinds[(promise[0], kept)] += 1
            self.assertEqual(judged == ("kept",), kept)
            self.assertIs(fault_holds(yard, promise, judged), not kept)
            self.assertEqual(kept, brute.raised(yard.copy().change, ("promise", promise)) is None)
            if not kept:
                self.assertTrue(told_fault(heaps, promise, judged), (heaps, promise, judged))
                for thing in brute.spoiled(judged):
                    self.assertIs(fault_holds(yard, promise, thing), told_fault(heaps, promise, thing), (promise, thing))
            mean = sum(Fraction(tint, stripe[0]) for stripe, tint in heaps[promise[1]])
            for thing in (("apart", (0, 0)), ("breadths",), ("mean", (mean.numerator, mean.denominator)), ("kept",), None,
                          ("mean", (2 * mean.numerator, 2 * mean.denominator)), ("above", (0,)), ("bar", (2, (1, 0)))):
                self.assertIs(fault_holds(yard, promise, thing), not kept and told_fault(heaps, promise, thing))
        for kind in ("alike", "return", "held", "never above", "mean"):
            self.assertGreater(kinds[(kind, True)], 5)
            self.assertGreater(kinds[(kind, False)], 5)

    def test_no_promises(self):
        yard = made(a=A, b=A, w=WALK)
        for wrong in NO_PROMISES:
            name, told = brute.raised(yard.judged, wrong)
            self.assertEqual(name, "BadPromise")
            self.assertIs(told["thing"], wrong)
            for thing in (("kept",), ("breadths",), ("mean", (3, 2)), None):
                self.assertIs(fault_holds(yard, wrong, thing), False)

    def test_any_values_as_faults(self):
        yard = made(a=A, b=(((3, (1, 2), 1), -3),), w=WALK)
        for promise in (("alike", "a", "b"), ("alike", "a", "w"), ("return", "a", (1, 0)), ("held", "a", ((0, 1),)),
                        ("never above", "a", 1), ("never above", "b", 1), ("mean", "a", (1, 2))):
            fault = yard.judged(promise)
            self.assertIs(fault_holds(yard, promise, fault), True)
            for thing in NO_PROMISES + brute.NO_CELLS + brute.NO_STRIPES:
                self.assertIs(fault_holds(yard, promise, thing), False)
                if thing != (0, 0) and thing != (2, (1, 0)):
                    self.assertIs(fault_holds(yard, promise, (fault[0], thing)), False, (promise, thing))

    def test_below_zero_comes_before_above(self):
        heap = (((2, (1, 0), 0), 9), ((2, (1, 0), 1), -1), ((3, (1, 0), 0), -2))
        yard = made(a=heap)
        promise = ("never above", "a", 3)
        self.assertEqual(yard.judged(promise), ("below zero", (2, (1, 0), 1)))
        self.assertIs(fault_holds(yard, promise, ("above", (2, 0))), False)
        self.assertIs(fault_holds(yard, promise, ("below zero", (3, (1, 0), 0))), False)

    def test_both_names_alike(self):
        yard = with_promises(made(a=A), ("alike", "a", "a"))
        self.assertEqual(yard.judged(("alike", "a", "a")), ("kept",))
        for thing in (("breadths",), ("apart", (0, 0))):
            self.assertIs(fault_holds(yard, ("alike", "a", "a"), thing), False)

    def test_papers_that_promises_are_kept_are_no_faults(self):
        yard = made(a=A, b=A)
        self.assertIs(alike_holds(A, A, ("alike", A)), True)
        self.assertIs(fault_holds(yard, ("alike", "a", "b"), ("alike", A)), False)
        paper = judge_panes(A, ((1, 0),))
        self.assertEqual(paper[0], "panes")
        self.assertIs(fault_holds(yard, ("held", "a", ((1, 0),)), paper), False)
        self.assertIs(fault_holds(yard, ("return", "a", (2, 0)), ("return",)), False)
        self.assertIs(fault_holds(yard, ("never above", "a", 3), ("never", ())), False)
        self.assertIs(fault_holds(yard, ("mean", "a", (3, 2)), ("kept",)), False)

    def test_given_or_not(self):
        yard = with_promises(made(a=A), MEAN)
        self.assertEqual(yard.judged(MEAN), ("kept",))
        self.assertEqual(yard.judged(("mean", "a", (30, 20))), ("kept",))
        self.assertEqual(yard.judged(("mean", "a", (3, 4))), ("mean", (3, 2)))
        self.assertIs(fault_holds(yard, ("mean", "a", (3, 4)), ("mean", (6, 4))), False)
        self.assertIs(fault_holds(yard, ("mean", "a", (6, 4)), ("mean", (3, 2))), False)

    def test_numbers_at_the_ends_of_the_limits(self):
        m = 210 ** 17
        heap = tuple(((m, (1, r), 3 * r), 10 ** 39) for r in range(12))
        far = (10 ** 399, 10 ** 399 + 1)
        begin = time.perf_counter()
        yard = made(a=heap, b=plain_heap(heap), w=(((m, (11,), m // 2), -1),))
        self.assertEqual(yard.judged(("alike", "a", "b")), ("kept",))
        self.assertEqual(yard.judged(("return", "a", (m, -m * 10 ** 19))), ("kept",))
        self.assertEqual(yard.judged(("held", "a", tuple((1, k) for k in range(6))))[0], "bar")
        self.assertEqual(yard.judged(("held", "a", (far,)))[0], "bar")
        self.assertEqual(yard.judged(("mean", "a", (12 * 10 ** 39, m))), ("kept",))
        weight = 12 * 10 ** 39
        self.assertEqual(yard.judged(("never above", "a", weight)), ("kept",))
        self.assertEqual(yard.judged(("never above", "a", weight - 1)), ("above", (0, 3)))
        self.assertEqual(yard.judged(("return", "w", (m - 1,)))[0], "apart")
        yard.deal((("move", "a", (10 ** 59, -10 ** 59)), ("times", "b", -1), ("add", "a", "b"), ("drop", "b"),
                   ("promise", ("held", "a", tuple((1, k) for k in range(6)))), ("put", "a", heap[:6])))
        self.assertEqual(Yard.read(str(yard)), yard)
        self.assertLess(time.perf_counter() - begin, 10)


class RandomDeals(Cases):
    """A yard beside dicts and lists of the tests' own."""

    def changed(self, heaps, promises, change):
        """The heaps and promises after the change, by the words of [11.3]; None if it fails."""
        heaps, kind, name = dict(heaps), change[0], change[1]
        if kind == "promise":
            right = change[1] not in promises and all(word in heaps for word in self.names(change[1]))
            return (heaps, promises + [change[1]]) if right and self.fits(heaps, change[1]) else None
        if kind == "release":
            return (heaps, [other for other in promises if other != name]) if name in promises else None
        if kind == "put":
            return {**heaps, name: change[2]}, promises
        if name not in heaps:
            return None
        if kind == "drop":
            heap = heaps.pop(name)
            return None if any(name in self.names(promise) for promise in promises) else (heaps, promises)
        if kind == "rename":
            if change[2] in heaps:
                return None
            heaps[change[2]] = heaps.pop(name)
            words = {name: change[2]}
            return heaps, [tuple(words.get(part, part) if k else part for k, part in enumerate(promise)) for promise in promises]
        heap = heaps[name]
        breadth = len(heap[0][0][1])
        if kind == "stripe":
            heap = self.sum(heap, ((change[2], change[3]),)) if len(change[2][1]) == breadth else ()
        elif kind == "move":
            step = change[2]
            moved = [((m, c, (r + sum(a * b for a, b in zip(c, step))) % m), tint) for (m, c, r), tint in heap]
            heap = tuple(sorted(moved)) if len(step) == breadth else ()
        elif kind == "times":
            heap = tuple((stripe, tint * change[2]) for stripe, tint in heap)
        elif kind == "add":
            other = heaps.get(change[2], ())
            heap = self.sum(heap, other) if other and len(other[0][0][1]) == breadth else ()
        elif kind == "plain":
            heap = plain_heap(heap)
        return None if not 1 <= len(heap) <= 24 else ({**heaps, name: heap}, promises)

    @staticmethod
    def sum(one, other):
        tints = dict(one)
        for stripe, tint in other:
            tints[stripe] = tints.get(stripe, 0) + tint
        return brute.heap_of(tints)

    @staticmethod
    def names(promise):
        return promise[1:] if promise[0] == "alike" else promise[1:2]

    @staticmethod
    def fits(heaps, promise):
        breadth = len(heaps[promise[1]][0][0][1])
        if promise[0] == "return":
            return len(promise[2]) == breadth
        return promise[0] != "held" or len(promise[2][0]) == breadth

    def made_change(self, maker, heaps, promises):
        kind = maker.rand.choice(["put", "drop", "rename", "stripe", "move", "times", "add", "plain", "promise", "promise",
                                  "promise", "release"])
        names = sorted(heaps) * 5 + ["a", "b", "c", "d"]
        name, other = maker.rand.choice(names), maker.rand.choice(names)
        breadth = len(heaps[name][0][0][1]) if name in heaps else 2
        if maker.rand.randrange(12) == 0:
            breadth = maker.rand.randrange(1, 4)
        if kind == "put":
            return (kind, name, made_heap(maker, breadth, 2))
        if kind in ("drop", "plain"):
            return (kind, name)
        if kind in ("rename", "add"):
            return (kind, name, other)
        if kind == "stripe":
            return (kind, name, maker.stripe(breadth, [2, 3]), maker.rand.choice((-1, 1)))
        if kind == "move":
            return (kind, name, tuple(maker.rand.randrange(-3, 4) for _ in range(breadth)))
        if kind == "times":
            return (kind, name, maker.rand.choice((-1, 2, 1)))
        if kind == "promise" and heaps:
            return (kind, made_promise(maker, heaps))
        return ("release", maker.rand.choice(promises)) if promises else ("drop", name)

    def test_random_deals(self):
        maker = brute.Maker(1102)
        counts = {"done": 0, "BadChange": 0, "Unkept": 0}
        for _ in range(25):
            heaps = {name: made_heap(maker, maker.rand.choice((1, 2, 2, 3)), 2) for name in ("a", "b")}
            yard, promises, past, future = made(**heaps), [], [], []
            for _ in range(30):
                move = maker.rand.randrange(8)
                if move == 0 and past:
                    yard.undo()
                    future.append((past[-1][0], heaps, promises))
                    _, heaps, promises = past.pop()
                elif move == 1 and future:
                    yard.redo()
                    past.append((future[-1][0], heaps, promises))
                    _, heaps, promises = future.pop()
                else:
                    heaps, promises = self.one_deal(maker, yard, heaps, promises, past, future, counts)
                self.assertEqual({name: yard.heap(name) for name in yard.names()}, heaps)
                self.assertEqual(yard.promises(), tuple(promises))
                self.assertEqual(yard.deals(), tuple(deal for deal, _, _ in past))
                self.assertEqual(Yard.read(str(yard)), yard)
        self.assertTrue(all(many > 40 for many in counts.values()), counts)

    def one_deal(self, maker, yard, heaps, promises, past, future, counts):
        deal, after, failed = [], (heaps, promises), None
        for number in range(maker.rand.choice((1, 1, 2, 3))):
            deal.append(self.made_change(maker, *after))
            if failed is None:
                changed = self.changed(*after, deal[-1])
                failed = number if changed is None else None
                after = after if changed is None else changed
        deal = tuple(deal)
        error = brute.raised(yard.deal, deal)
        if failed is not None:
            self.assertEqual(error, ("BadChange", {"number": failed}))
            counts["BadChange"] += 1
            return heaps, promises
        for promise in after[1]:
            fits = self.fits(after[0], promise)
            if not fits or not told_kept(after[0], promise):
                self.assertEqual((error[0], error[1]["promise"]), ("Unkept", promise))
                fault = error[1]["fault"]
                self.assertTrue(told_fault(after[0], promise, fault) if fits else fault is None)
                counts["Unkept"] += 1
                return heaps, promises
        self.assertIsNone(error)
        counts["done"] += 1
        past.append((deal, heaps, promises))
        future.clear()
        return after


if __name__ == "__main__":
    unittest.main()
