"""What the tests of yards share: yards, values that are no names and no promises, and [11.2] word by word."""

import math
import unittest
from fractions import Fraction

import brute
from slantpanes.looks import plain_heap
from slantpanes.yards import Yard

A = (((2, (1, 0), 0), 3),)
WALK = (((4, (1,), 1), 2), ((6, (5,), 0), -1))
ROOM = (((2, (1, 0, 1), 0), 1), ((3, (0, 1, 2), 2), 4))
MEAN = ("mean", "a", (3, 2))
MANY = tuple(((29, (1, 0), r), 1) for r in range(24))
NO_NAMES = brute.NOTHING_OF_ALL + [
    "A", "aB", "abcdefghi", "a b", " a", "a ", "a1", "1", "-", "a\n", ("a",), ["a"], 0, "a-b", "_", {"a": "a"},
]
NO_NAMES = [thing for thing in NO_NAMES if thing not in ("a", "alike")]
NO_PROMISES = brute.NOTHING_OF_ALL + brute.NO_HEAPS + [
    (), ("alike",), ("alike", "a"), ("alike", "a", "c"), ("alike", "c", "a"), ("alike", "a", "b", "b"), ["alike", "a", "b"],
    ("alike", "a", None), ("alike", "a", ("b",)), ("alike", ["a"], "b"), ("return", "a"), ("return", "a", (2,)),
    ("return", "a", (2, 0, 0)), ("return", "c", (2, 0)), ("return", "a", [2, 0]), ("return", "a", (2, True)),
    ("return", "w", (2, 0)), ("return", "w", ()), ("held", "a", ()), ("held", "a", ((1, 0), (0, 1))),
    ("held", "a", [(1, 0)]), ("held", "a", ((2, 0),)), ("held", "a", ((1, 0, 0),)), ("held", "w", ((1,),)),
    ("held", "w", ((1, 0),)), ("held", "c", ((1, 0),)), ("held", "a", (5, (1, 0))), ("held", "a", ((1, 0), (1, 0))),
    ("held", "a", tuple((1, k) for k in range(7))), ("never above", "a", -1), ("never above", "a", True),
    ("never above", "a", "3"), ("never above", "c", 3), ("never above", "a", (3,)), ("never above", "a"),
    ("never", "a", 3), ("never_above", "a", 3), ("mean", "a", (3, 0)), ("mean", "a", (3, -2)), ("mean", "a", (3,)),
    ("mean", "a", 3), ("mean", "a", [3, 2]), ("mean", "a", (3, 2, 1)), ("mean", "a", (True, 2)), ("mean", "c", (3, 2)),
    ("mean", "a", (3, None)), ("mean", "a", (brute.YARD, 2)), ("mean", brute.YARD, (3, 2)), (brute.YARD, "a", (3, 2)),
    ("kept", "a", "b"), ("Alike", "a", "b"), (None, "a", "b"), ("mean", None, (3, 2)), ("mean", ("a",), (3, 2)),
]


def made(**heaps):
    """A yard with these heaps and without deals."""
    lines = ["yard"]
    for name in sorted(heaps):
        lines.append(f"heap {name}")
        for (m, c, r), tint in heaps[name]:
            lines.append(" ".join(["stripe", *map(str, [m, *c, r, tint])]))
    return Yard.read("\n".join(lines))


def with_promises(yard, *promises):
    for promise in promises:
        yard.change(("promise", promise))
    return yard


def state(yard):
    """All that a yard tells of itself, also of what is undone."""
    other = yard.copy()
    undone = []
    while brute.raised(other.redo) is None:
        undone.append((other.deals()[-1], str(other)))
    before = []
    other = yard.copy()
    while brute.raised(other.undo) is None:
        before.append(str(other))
    heaps = {name: yard.heap(name) for name in yard.names()}
    return (heaps, yard.promises(), yard.deals(), str(yard), undone, before)


class Cases(unittest.TestCase):
    def assert_raises_and_stays(self, yard, call, *told):
        """The error of the call, which changes nothing."""
        before = state(yard)
        error = brute.raised(call, *told)
        self.assertIsNotNone(error, told)
        self.assertEqual(state(yard), before)
        return error

    def assert_error(self, yard, change, wanted, **parameters):
        """The change raises this error, and as part of a deal makes it fail at its number."""
        self.assertEqual(self.assert_raises_and_stays(yard, yard.change, change), (wanted, parameters), change)
        error = self.assert_raises_and_stays(yard, yard.deal, (change,))
        self.assertEqual(error, ("BadChange", {"number": 0}))
        fine = ("put", "fine", A)
        error = self.assert_raises_and_stays(yard, yard.deal, (fine, fine, change, 5))
        self.assertEqual(error, ("BadChange", {"number": 2}))


def told_kept(heaps, promise):
    """Whether a promise about heaps of small periods is kept, by the words of [11.2]."""
    kind, name, told = promise
    heap = heaps[name]
    breadth = len(heap[0][0][1])
    names = (name, told) if kind == "alike" else (name,)
    side = math.lcm(*[stripe[0] for word in names for stripe, _ in heaps[word]])
    if kind == "alike":
        other = heaps[told]
        return len(other[0][0][1]) == breadth and brute.look(heap, breadth, side) == brute.look(other, breadth, side)
    if kind == "return":
        cells = brute.box(breadth, side)
        return all(brute.tint(heap, cell) == brute.tint(heap, tuple(a + b for a, b in zip(cell, told))) for cell in cells)
    if kind == "never above":
        return all(tint > 0 for _, tint in heap) and max(brute.look(heap, breadth, side)) <= told
    if kind == "mean":
        return Fraction(sum(brute.look(heap, breadth, side)), side ** breadth) == Fraction(*told)
    return all(any(told_holds(direction, level) for direction in told) for level in told_levels(heap))


def told_levels(heap):
    return {stripe[:2] for stripe, _ in plain_heap(heap)}


def told_holds(direction, level):
    m, c = level
    return any(tuple(u * number % m for number in direction) == c for u in brute.units_of(m))


def told_fault(heaps, promise, thing):
    """Whether a fault is right, by the words of [11.2]."""
    kind, name, told = promise
    heap = heaps[name]
    breadth = len(heap[0][0][1])
    if kind == "alike" and len(heaps[told][0][0][1]) != breadth:
        return thing == ("breadths",)
    if not isinstance(thing, tuple) or len(thing) != 2:
        return False
    word, value = thing
    if kind in ("alike", "return"):
        if word != "apart" or not brute.told_cell(value) or len(value) != breadth:
            return False
        other = heaps[told] if kind == "alike" else heap
        behind = value if kind == "alike" else tuple(a + b for a, b in zip(value, told))
        return brute.tint(heap, value) != brute.tint(other, behind)
    if kind == "held":
        right = word == "bar" and any(brute.same(value, level) for level in told_levels(heap))
        return right and not any(told_holds(direction, value) for direction in told)
    if kind == "never above":
        below = [stripe for stripe, tint in heap if tint < 0]
        if below:
            return word == "below zero" and brute.same(value, below[0])
        return word == "above" and brute.told_cell(value) and len(value) == breadth and brute.tint(heap, value) > told
    side = math.lcm(*[stripe[0] for stripe, _ in heap])
    mean = Fraction(sum(brute.look(heap, breadth, side)), side ** breadth)
    right = word == "mean" and brute.same(value, (mean.numerator, mean.denominator))
    return right and mean != Fraction(*told)


def made_heap(maker, breadth, many=3):
    return brute.heap_of({maker.stripe(breadth, [1, 2, 3, 4, 6]): maker.rand.choice((-1, 1, 2)) for _ in range(many)})


def made_promise(maker, heaps):
    """A promise about these heaps, as often as not kept."""
    kind = maker.rand.choice(["alike", "return", "held", "never above", "mean"])
    name = maker.rand.choice(sorted(heaps))
    breadth = len(heaps[name][0][0][1])
    if kind == "alike":
        return (kind, name, maker.rand.choice(sorted(heaps)))
    if kind == "return":
        return (kind, name, tuple(maker.rand.choice((0, 1, 2, 3, 4, 6, 12, 12, -12)) for _ in range(breadth)))
    if kind == "held" and breadth > 1:
        some = [(0,) * (breadth - 1) + (1,), (0, 1, 1)[3 - breadth:], (1,) * breadth, (1,) + (0,) * (breadth - 1)]
        return (kind, name, tuple(sorted(set(maker.rand.sample(some, 3)))))
    if kind == "never above":
        return (kind, name, maker.rand.randrange(5))
    mean = sum(Fraction(tint, stripe[0]) for stripe, tint in heaps[name])
    times = maker.rand.choice((1, 1, 2))
    return ("mean", name, (mean.numerator * times + maker.rand.choice((0, 0, 1)), mean.denominator * times))
