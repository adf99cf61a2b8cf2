"""[0.2]: what the functions do with any values in the place of their arguments.

Each function is called with right arguments of which some part, at any depth, is replaced, left out, repeated or
exchanged. It answers, or it raises one of the errors that the document names for it, and no other. Its arguments
stay as they are.
"""

import copy
import unittest

import brute
from slantpanes import (
    floors, heaps, lampfloors, lamps, lookers, looks, means, meetings, panes, returns, stripes, views, yards,
)
from slantpanes.yards import Yard

HEAP = (((2, (1, 1), 0), 1), ((6, (1, 2), 5), -4), ((9, (3, 1), 7), 1))
OTHER = (((3, (0, 1), 2), 2), ((4, (1, 0), 1), 5))
BRIGHT = (((2, (0, 1), 0), 1), ((2, (1, 0), 0), 2), ((2, (1, 1), 1), 1))
ROOM = (((2, (1, 0, 1), 0), 1), ((3, (0, 1, 2), 2), 4))
ROW = (((2, (1,), 0), 3), ((4, (3,), 1), 1))
STRIPE = (6, (1, 2), 5)
STRIPES = ((2, (0, 1), 0), (2, (1, 0), 0), (2, (1, 1), 1))
LOOKS = ((0, 0), (0, 1), (1, 1))
DIRECTIONS = ((0, 1), (1, -2), (3, 2))
FLOOR = ((1, 0), (0, 0))
PARTS = [
    None, True, False, 0, 1, 2, 3, -1, 4, 6, 31, 10 ** 98 + 1, -10 ** 98, "", "a", "meet", "bar", "heap", "alike", "apart", (), [],
    {}, (0, 0), (1, 0), (0,), (1, 1, 1), [1, 0], (1, 0, 1, 0), ((0, 1),), (2, (1, 0), 0), (1, (0, 0), 0), (2, (1, 0)), (1, 2),
    (1, 1), HEAP, OTHER[:1], ROW, FLOOR, {"a": (1,)}, brute.deep(10), Yard(), brute.YARD, (brute.YARD,), [Yard()], STRIPES, LOOKS,
    ("mean", "a", (3, 2)), ("put", "a", OTHER),
]


def text_yard():
    return Yard.read("yard\nheap a\nstripe 2 1 0 0 3\nheap b\nstripe 2 1 0 0 3\nmean a 3 2\nalike a b")


FAULT = ("apart", (1, 0))
# The functions, right arguments and the errors that the document names for each.
CALLS = [
    (stripes.is_period, (360,), ""), (stripes.is_stripe, (STRIPE,), ""), (stripes.is_cell, ((1, 2),), ""),
    (stripes.prime_powers, (360,), "BadPeriod"), (stripes.breadth_of, (STRIPE,), "BadStripe"),
    (stripes.normal_stripe, (STRIPE,), "BadStripe"), (stripes.are_same, (STRIPE, (4, (3, 1), 2)), "BadStripe"),
    (stripes.is_on, (STRIPE, (1, 2)), "BadStripe BadCell"), (stripes.stripe_by, ((4, 6), 10, 2), "BadCell BadPeriod BadCount"),
    (heaps.is_heap, (HEAP,), ""), (heaps.tint_at, (HEAP, (1, 2)), "BadHeap BadCell"),
    (heaps.added, (HEAP, OTHER), "BadHeap OtherBreadth"), (heaps.taken, (HEAP, OTHER), "BadHeap OtherBreadth"),
    (heaps.times, (HEAP, 5), "BadHeap BadCount"),
    (looks.is_plain, (HEAP,), "BadHeap"), (looks.plain_heap, (HEAP,), "BadHeap"),
    (looks.judge_alike, (HEAP, OTHER), "BadHeap OtherBreadth"),
    (looks.alike_holds, (HEAP, OTHER, ("apart", (0, 0))), "BadHeap OtherBreadth"),
    (looks.alike_holds, (OTHER, OTHER, ("alike", looks.plain_heap(OTHER))), "BadHeap OtherBreadth"),
    (looks.do_look_alike, (HEAP, OTHER), "BadHeap OtherBreadth"), (looks.levels_of, (HEAP,), "BadHeap"),
    (looks.great_levels, (HEAP,), "BadHeap"),
    (views.is_view, ((0, 1), ((1, 2), (3, 4))), ""), (views.moved, (HEAP, (1, 2)), "BadHeap BadCell"),
    (views.seen, (HEAP, (0, 1), ((1, 2), (3, 4))), "BadHeap BadCell BadSteps"),
    (views.seen_of_seen, ((0, 1), ((1, 2),), (3,), ((1,), (2,))), "BadCell BadSteps"),
    (views.turned_back, ((0, 1), ((1, 2), (0, 1))), "BadCell BadSteps"),
    (views.tints_along, (HEAP, (0, 1), (1, 2), 5), "BadHeap BadCell BadCount"),
    (returns.is_return, (HEAP, (1, 2)), "BadHeap BadCell"), (returns.comes_again, (HEAP, (1, 2)), "BadHeap BadCell"),
    (returns.corner_rows, (HEAP,), "BadHeap"), (returns.looks_by_moving, (HEAP,), "BadHeap"),
    (returns.judge_return, (HEAP, (1, 2)), "BadHeap BadCell"),
    (returns.return_holds, (HEAP, (1, 2), ("apart", (0, 0))), "BadHeap BadCell"),
    (returns.return_holds, (OTHER, (12, 12), ("return",)), "BadHeap BadCell"),
    (panes.is_direction, ((1, -2),), ""), (panes.is_row, (ROW,), ""), (panes.is_pane, (((1, -2), ROW),), ""),
    (panes.laid, ((1, -2), ROW), "BadDirection BadRow"), (panes.does_hold, ((1, -2), (2, (1, 0))), "BadDirection"),
    (panes.cross_number, ((1, -2), (1, 0)), "BadDirection OtherBreadth"),
    (panes.exchanged, ((1, 0), (1, 4), ROW), "BadDirection OtherBreadth BadRow"),
    (panes.judge_panes, (HEAP, DIRECTIONS), "BadHeap BadDirections"),
    (panes.panes_hold, (HEAP, DIRECTIONS, panes.judge_panes(HEAP, DIRECTIONS)), "BadHeap BadDirections"),
    (panes.panes_hold, (OTHER, DIRECTIONS[:1], panes.judge_panes(OTHER, DIRECTIONS[:1])), "BadHeap BadDirections"),
    (panes.panes_hold, (OTHER, ((0, 1), (1, 0)), panes.judge_panes(OTHER, ((0, 1), (1, 0)))), "BadHeap BadDirections"),
    (panes.fewest_directions, (HEAP,), "BadHeap"),
    (meetings.judge_meeting, (STRIPES,), "BadStripes"), (meetings.do_meet, (STRIPES,), "BadStripes"),
    (meetings.common_cells, (STRIPES[:2],), "BadStripes"),
    (meetings.meeting_holds, (STRIPES, ("never", ((0, 1), (1, 1), (2, 1)))), "BadStripes"),
    (meetings.meeting_holds, (STRIPES[:2], ("meet", (0, 0))), "BadStripes"),
    (meetings.greatest_tint, (BRIGHT,), "BadHeap BelowZero"),
    (meetings.judge_never_above, (BRIGHT, 2), "BadHeap BelowZero BadBound"),
    (meetings.never_above_holds, (BRIGHT, 3, ("never", (((0, 1), (1, 1), (2, 1)),))), "BadHeap BelowZero BadBound"),
    (meetings.never_above_holds, (BRIGHT, 1, ("above", (0, 0))), "BadHeap BelowZero BadBound"),
    (means.mean, (HEAP,), "BadHeap"), (means.distance, (HEAP, OTHER), "BadHeap OtherBreadth"),
    (means.likeness, (HEAP, OTHER, (1, 2)), "BadHeap OtherBreadth BadCell"),
    (means.share_of_both, (STRIPE, (4, (3, 1), 2)), "BadStripe OtherBreadth"),
    (lookers.judge_sure, (STRIPES, LOOKS, (1, 0)), "BadStripes BadLooks BadCell"),
    (lookers.sure_holds, (STRIPES, LOOKS, (1, 0), lookers.judge_sure(STRIPES, LOOKS, (1, 0))), "BadStripes BadLooks BadCell"),
    (lookers.sure_holds, (STRIPES, LOOKS[:1], (1, 0), lookers.judge_sure(STRIPES, LOOKS[:1], (1, 0))),
     "BadStripes BadLooks BadCell"),
    (lookers.judge_fit, (STRIPES, LOOKS, (1, 2, 3)), "BadStripes BadLooks BadTints"),
    (lookers.fit_holds, (STRIPES, LOOKS, (1, 2, 3), lookers.judge_fit(STRIPES, LOOKS, (1, 2, 3))), "BadStripes BadLooks BadTints"),
    (lookers.fit_holds, (STRIPES, LOOKS[:1] * 2, (1, 2), lookers.judge_fit(STRIPES, LOOKS[:1] * 2, (1, 2))),
     "BadStripes BadLooks BadTints"),
    (lookers.are_enough, (STRIPES, LOOKS), "BadStripes BadLooks"), (lookers.rank_of, (STRIPES,), "BadStripes"),
    (lookers.enough_looks, (STRIPES,), "BadStripes"),
    (floors.is_floor, (FLOOR,), ""), (floors.fitting_levels, ((2, 3),), "BadFloor"),
    (floors.floor_of, (OTHER, (4, 3)), "BadHeap BadFloor"), (floors.plain_sum, (FLOOR,), "BadFloor"),
    (floors.least_multiple, (FLOOR,), "BadFloor"), (floors.least_heap, (FLOOR,), "BadFloor"),
    (floors.judge_floor, (FLOOR,), "BadFloor"), (floors.floor_holds, (FLOOR, ("bar", 2, ((1, 1), (1, 1)))), "BadFloor"),
    (floors.floor_holds, (((1, 0), (1, 0)), floors.judge_floor(((1, 0), (1, 0)))), "BadFloor"),
    (lamps.lamp_at, (HEAP, 3, (1, 2)), "BadHeap BadPrime BadCell"), (lamps.lamp_form, (OTHER, 2), "BadHeap BadPrime"),
    (lamps.lamp_degree, (OTHER, 2), "BadHeap BadPrime"),
    (lamps.do_shine_alike, (HEAP, OTHER, 3), "BadHeap OtherBreadth BadPrime"),
    (lamps.judge_lamps, (OTHER, BRIGHT, 2), "BadHeap OtherBreadth BadPrime"),
    (lamps.lamps_hold, (OTHER, OTHER, 2, lamps.judge_lamps(OTHER, OTHER, 2)), "BadHeap OtherBreadth BadPrime"),
    (lamps.lamps_hold, (OTHER, BRIGHT, 2, lamps.judge_lamps(OTHER, BRIGHT, 2)), "BadHeap OtherBreadth BadPrime"),
    (lampfloors.judge_lamp_floor, (FLOOR, 2), "BadPrime BadFloor"),
    (lampfloors.lamp_floor_holds, (FLOOR, 2, ("bar", ((1, 1), (1, 1)))), "BadPrime BadFloor"),
    (lampfloors.lamp_floor_holds, (((0, 1), (0, 1)), 2, ("heap", (((2, (0, 1), 1), 1),))), "BadPrime BadFloor"),
    (lambda promise, thing: yards.fault_holds(text_yard(), promise, thing), (("return", "a", (1, 0)), FAULT), ""),
    (lambda promise, thing: yards.fault_holds(text_yard(), promise, thing), (("mean", "a", (1, 2)), ("mean", (3, 2))), ""),
    (lambda promise, thing: yards.fault_holds(text_yard(), promise, thing), (("held", "a", ((0, 1),)), ("bar", (2, (1, 0)))), ""),
    (lambda promise, thing: yards.fault_holds(text_yard(), promise, thing), (("never above", "a", 1), ("above", (0, 0))), ""),
    (lambda promise: text_yard().judged(promise), (("return", "a", (1, 0)),), "BadPromise"),
    (lambda promise: text_yard().judged(promise), (("held", "a", DIRECTIONS),), "BadPromise"),
    (lambda promise: text_yard().judged(promise), (("never above", "a", 2),), "BadPromise"),
    (lambda name: text_yard().heap(name), ("a",), "NoName"), (lambda thing: text_yard() == thing, (text_yard(),), ""),
    (lambda change: text_yard().change(change), (("put", "a", HEAP),), "BadChange BadName Unkept"),
    (lambda change: text_yard().change(change), (("stripe", "a", (2, (1, 0), 0), 2),),
     "BadChange NoName BadName BadStripe BadCount TooMany NothingLeft Unkept"),
    (lambda change: text_yard().change(change), (("move", "a", (1, 0)),), "BadChange NoName BadName BadCell Unkept"),
    (lambda change: text_yard().change(change), (("promise", ("held", "a", DIRECTIONS)),), "BadChange BadName BadPromise Unkept"),
    (lambda change: text_yard().change(change), (("release", ("mean", "a", (3, 2))),), "BadChange BadName NoPromise Unkept"),
    (lambda change: text_yard().change(change), (("rename", "a", "c"),), "BadChange NoName BadName NameTaken Unkept"),
    (lambda changes: text_yard().deal(changes), ((("drop", "a"), ("times", "b", 2), ("add", "a", "b"), ("plain", "b")),),
     "BadChange Unkept"),
    (lambda text: str(Yard.read(text)), (str(text_yard()),), "BadText"),
]
BOOLS = ("is_", "are_", "do_", "does_")


class AnyValues(unittest.TestCase):
    def setUp(self):
        self.rand = brute.Maker(901).rand

    def spoiled(self, thing):
        """The value with one part changed, at any depth."""
        if isinstance(thing, tuple) and thing and self.rand.randrange(5):
            at = self.rand.randrange(len(thing))
            return thing[:at] + (self.spoiled(thing[at]),) + thing[at + 1:]
        if isinstance(thing, tuple) and self.rand.randrange(2):
            at, behind = self.rand.randrange(len(thing) + 1), self.rand.randrange(len(thing) + 1)
            return self.rand.choice([
                thing[:at] + thing[at + 1:], thing[:at] + thing[at:at + 1] + thing[at:], list(thing), thing[::-1],
                thing[:at] + (self.rand.choice(PARTS),) + thing[at:], thing[behind:] + thing[:behind], (thing,), thing * 2,
            ])
        if isinstance(thing, str) and self.rand.randrange(2):
            at = self.rand.randrange(len(thing) + 1)
            return thing[:at] + self.rand.choice(["", " ", "a", "1", "-", "\n", "9" * 400]) + thing[at + 1:]
        return self.rand.choice(PARTS)

    def test_answers_or_the_named_errors(self):
        for call, right, errors in CALLS:
            name = call.__name__
            self.assertIsNone(brute.raised(call, *right) if name != "<lambda>" else None, name)
            for _ in range(150):
                told = list(right)
                for _ in range(self.rand.choice((1, 1, 1, 2, 3))):
                    at = self.rand.randrange(len(told))
                    told[at] = self.spoiled(told[at])
                before = copy.deepcopy(told)
                with self.subTest(call=name, told=told):
                    error = brute.raised(call, *told)
                    self.assertEqual(told, before)
                    if error is not None:
                        self.assertIn(error[0], errors.split())
                        self.assertEqual(brute.raised(call, *told), error)
                    elif name.startswith(BOOLS) or name.endswith(("_holds", "_hold")):
                        self.assertIn(call(*told).__class__, (bool,))

    def test_things_raise_no_errors(self):
        for call, right, _ in CALLS:
            if call.__name__.endswith(("_holds", "_hold")):
                self.assertIs(call(*right), True, call.__name__)
                for _ in range(200):
                    thing = self.spoiled(right[-1])
                    if self.rand.randrange(3) == 0:
                        thing = self.spoiled(thing)
                    with self.subTest(call=call.__name__, thing=thing):
                        self.assertIn(call(*right[:-1], thing).__class__, (bool,))

    def test_each_part_as_a_whole_argument(self):
        for call, right, errors in CALLS:
            for at, part in [(at, part) for at in range(len(right)) for part in PARTS]:
                told = (*right[:at], part, *right[at + 1:])
                with self.subTest(call=call.__name__, told=told):
                    error = brute.raised(call, *told)
                    self.assertTrue(error is None or error[0] in errors.split(), error)


if __name__ == "__main__":
    unittest.main()
