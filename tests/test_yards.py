"""Part 11: yards, their changes and their deals."""

import unittest

import brute
from glazier import A, MANY, MEAN, NO_NAMES, NO_PROMISES, ROOM, WALK, Cases, made, state, with_promises
from slantpanes import yards
from slantpanes.errors import NothingToRedo, NothingToUndo, Unkept
from slantpanes.looks import plain_heap
from slantpanes.yards import Yard, fault_holds

NO_NUMBERS = brute.NOTHING_OF_ALL + [0, (), (1,), "1", [2], ((1, 0), 0)]


class Examples(Cases):
    def yard(self):
        return with_promises(made(a=A), MEAN)

    def test_text(self):
        self.assertEqual(str(self.yard()), "yard\nheap a\nstripe 2 1 0 0 3\nmean a 3 2")
        self.assertEqual(Yard.read("yard\nheap a\nstripe 2 1 0 0 3\nmean a 3 2"), self.yard())

    def test_changes(self):
        yard = self.yard()
        with self.assertRaises(Unkept) as caught:
            yard.change(("times", "a", 2))
        self.assertEqual((caught.exception.promise, caught.exception.fault), (MEAN, ("mean", (3, 1))))
        self.assertIsNone(yard.change(("move", "a", (1, 0))))
        self.assertEqual(yard.heap("a"), (((2, (1, 0), 1), 3),))
        self.assertIsNone(yard.change(("plain", "a")))
        self.assertEqual(yard.heap("a"), (((1, (0, 0), 0), 3), ((2, (1, 0), 0), -3)))
        self.assertIs(fault_holds(yard, ("return", "a", (1, 1)), ("apart", (0, 0))), True)
        self.assertEqual(yard.judged(("return", "a", (1, 1)))[0], "apart")
        self.assertEqual(yard.judged(("return", "a", (2, 5))), ("kept",))

    def test_arguments_by_name(self):
        yard = Yard.read(text="yard")
        yard.deal(changes=(("put", "a", A),))
        yard.change(change=("promise", MEAN))
        self.assertEqual(yard.heap(name="a"), A)
        self.assertEqual(yard.judged(promise=MEAN), ("kept",))
        self.assertIs(fault_holds(thing=("mean", (3, 2)), promise=("mean", "a", (1, 2)), yard=yard), True)
        self.assertIsNone(yard.undo())
        self.assertIsNone(yard.redo())

    def test_defined_in_its_file(self):
        self.assertEqual((Yard.__module__, fault_holds.__module__), (yards.__name__, yards.__name__))
        for name in ("__eq__", "copy", "__str__", "read", "names", "heap", "promises", "deal", "deals", "change", "undo",
                     "redo", "judged"):
            self.assertIn(name, vars(Yard))


class Yards(Cases):
    def test_a_new_yard(self):
        yard = Yard()
        self.assertEqual((yard.names(), yard.promises(), yard.deals(), str(yard)), ((), (), (), "yard"))
        self.assertEqual(yard, Yard())
        self.assertEqual(self.assert_raises_and_stays(yard, yard.undo), ("NothingToUndo", {}))
        self.assertEqual(self.assert_raises_and_stays(yard, yard.redo), ("NothingToRedo", {}))

    def test_names_and_heaps(self):
        yard = made(b=A, a=WALK, abcdefgh=ROOM)
        self.assertEqual(yard.names(), ("a", "abcdefgh", "b"))
        self.assertEqual([yard.heap(name) for name in yard.names()], [WALK, ROOM, A])
        for wrong in NO_NAMES + ["c", "alike", A]:
            name, told = self.assert_raises_and_stays(yard, yard.heap, wrong)
            self.assertEqual(name, "NoName")
            self.assertIs(told["name"], wrong)

    def test_equal_yards(self):
        one, other = made(a=A, b=WALK), Yard()
        self.assertNotEqual(one, other)
        other.deal((("put", "b", WALK), ("put", "c", A), ("rename", "c", "a")))
        self.assertTrue(one == other and not one != other)
        other.change(("promise", MEAN))
        self.assertTrue(one != other and not one == other)
        one = with_promises(one, ("mean", "a", (6, 4)), MEAN)
        other.change(("promise", ("mean", "a", (6, 4))))
        self.assertNotEqual(one, other)
        one.change(("release", MEAN))
        one.change(("promise", MEAN))
        other.change(("release", MEAN))
        other.change(("promise", MEAN))
        self.assertEqual(one, other)
        for thing in brute.NOTHING_OF_ALL + [str(one), one.names(), A, 5, (one,)]:
            if thing != brute.YARD:
                self.assertIs(one == thing, False)
                self.assertIs(one != thing, True)

    def test_copies(self):
        yard = with_promises(made(a=A), MEAN)
        yard.change(("move", "a", (1, 0)))
        yard.change(("move", "a", (0, 1)))
        yard.undo()
        other = yard.copy()
        self.assertEqual(other, yard)
        self.assertEqual(state(other), state(yard))
        before = state(yard)
        other.change(("put", "b", WALK))
        self.assertEqual(state(yard), before)
        self.assertNotEqual(other, yard)
        before = state(other)
        yard.redo()
        yard.undo()
        yard.undo()
        yard.change(("release", MEAN))
        self.assertEqual(state(other), before)
        self.assertEqual(other.deals(), ((("promise", MEAN),), (("move", "a", (1, 0)),), (("put", "b", WALK),)))

    def test_any_values_hold_yards(self):
        yard = made(a=A)
        for wrong in (yard, (yard,), [yard], {"yard": yard}):
            self.assertEqual(brute.raised(yard.heap, wrong), ("NoName", {"name": wrong}))
            self.assertEqual(brute.raised(yard.deal, (wrong,)), ("BadChange", {"number": 0}))
            self.assertEqual(brute.raised(yard.judged, wrong), ("BadPromise", {"thing": wrong}))
            self.assertIs(fault_holds(yard, wrong, wrong), False)


class Changes(Cases):
    def test_put(self):
        yard = Yard()
        for name, heap in (("a", A), ("abcdefgh", WALK), ("a", ROOM), ("z", MANY)):
            self.assertIsNone(yard.change(("put", name, heap)))
            self.assertEqual(yard.heap(name), heap)
        self.assertEqual(yard.names(), ("a", "abcdefgh", "z"))
        for wrong in NO_NAMES:
            self.assert_error(yard, ("put", wrong, A), "BadName", thing=wrong)

    def test_drop(self):
        yard = with_promises(made(a=A, b=A, c=WALK, d=WALK), MEAN, ("alike", "a", "b"))
        self.assertIsNone(yard.change(("drop", "c")))
        self.assertEqual(yard.names(), ("a", "b", "d"))
        for name in ("a", "b"):
            self.assert_error(yard, ("drop", name), "InUse", name=name)
        for wrong in NO_NAMES + ["c", "alike"]:
            self.assert_error(yard, ("drop", wrong), "NoName", name=wrong)
        yard.deal((("release", MEAN), ("release", ("alike", "a", "b")), ("drop", "b")))
        self.assertEqual(yard.names(), ("a", "d"))

    def test_rename(self):
        yard = with_promises(made(a=A, b=A, c=WALK), MEAN, ("alike", "a", "b"), ("alike", "b", "a"), ("alike", "a", "a"),
                             ("return", "a", (2, 0)), ("held", "b", ((1, 0),)), ("never above", "a", 3))
        yard.change(("rename", "a", "zz"))
        self.assertEqual(yard.names(), ("b", "c", "zz"))
        self.assertEqual(yard.heap("zz"), A)
        self.assertEqual(yard.promises(), (
            ("mean", "zz", (3, 2)), ("alike", "zz", "b"), ("alike", "b", "zz"), ("alike", "zz", "zz"),
            ("return", "zz", (2, 0)), ("held", "b", ((1, 0),)), ("never above", "zz", 3)))
        self.assert_error(yard, ("rename", "a", 5), "NoName", name="a")
        for wrong in NO_NAMES:
            self.assert_error(yard, ("rename", wrong, None), "NoName", name=wrong)
            self.assert_error(yard, ("rename", "b", wrong), "BadName", thing=wrong)
        for taken in ("b", "c", "zz"):
            self.assert_error(yard, ("rename", "b", taken), "NameTaken", name=taken)

    def test_stripe(self):
        yard = made(a=A, w=WALK, m=MANY)
        yard.change(("stripe", "a", (2, (1, 0), 0), 4))
        self.assertEqual(yard.heap("a"), (((2, (1, 0), 0), 7),))
        # As stripes are written: these are the same cells.
        yard.deal((("stripe", "a", (3, (2, 0), 0), -5), ("stripe", "a", (3, (1, 0), 0), 10 ** 39)))
        self.assertEqual(yard.heap("a"), (((2, (1, 0), 0), 7), ((3, (1, 0), 0), 10 ** 39), ((3, (2, 0), 0), -5)))
        yard.change(("stripe", "a", (2, (1, 0), 0), -7))
        self.assertEqual(len(yard.heap("a")), 2)
        for wrong in NO_NAMES + ["b"]:
            self.assert_error(yard, ("stripe", wrong, 5, 0), "NoName", name=wrong)
        for wrong in brute.NO_STRIPES + [(4, (1,), 1), (2, (1, 0, 0), 0)]:
            self.assert_error(yard, ("stripe", "a", wrong, 0), "BadStripe", thing=wrong)
        for wrong in NO_NUMBERS:
            self.assert_error(yard, ("stripe", "m", (2, (1, 0), 0), wrong), "BadCount", thing=wrong)
        self.assert_error(yard, ("stripe", "m", (2, (1, 0), 0), 1), "TooMany", most=24)
        yard.change(("stripe", "m", MANY[3][0], 1))
        yard.change(("stripe", "m", MANY[3][0], -2))
        self.assertEqual(len(yard.heap("m")), 23)
        yard.change(("put", "a", A))
        self.assert_error(yard, ("stripe", "a", A[0][0], -3), "NothingLeft")

    def test_move(self):
        yard = made(a=A, w=WALK, r=ROOM)
        yard.deal((("move", "a", (5, 10 ** 59)), ("move", "w", (-1,)), ("move", "r", (1, 1, 1))))
        self.assertEqual(yard.heap("a"), (((2, (1, 0), 1), 3),))
        self.assertEqual(yard.heap("w"), (((4, (1,), 0), 2), ((6, (5,), 1), -1)))
        self.assertEqual(yard.heap("r"), (((2, (1, 0, 1), 0), 1), ((3, (0, 1, 2), 2), 4)))
        for wrong in NO_NAMES + ["b"]:
            self.assert_error(yard, ("move", wrong, None), "NoName", name=wrong)
        for wrong in brute.NO_CELLS + [(1,), (1, 2, 3)]:
            self.assert_error(yard, ("move", "a", wrong), "BadCell", thing=wrong)

    def test_times(self):
        yard = made(a=A, w=WALK)
        yard.deal((("times", "a", -2), ("times", "w", 10 ** 30)))
        self.assertEqual(yard.heap("a"), (((2, (1, 0), 0), -6),))
        self.assertEqual(yard.heap("w"), (((4, (1,), 1), 2 * 10 ** 30), ((6, (5,), 0), -10 ** 30)))
        for wrong in NO_NAMES + ["b"]:
            self.assert_error(yard, ("times", wrong, 0), "NoName", name=wrong)
        for wrong in NO_NUMBERS:
            self.assert_error(yard, ("times", "a", wrong), "BadCount", thing=wrong)

    def test_add(self):
        other = (((2, (1, 0), 0), -3), ((2, (1, 0), 1), 5))
        yard = made(a=A, b=other, n=(((2, (1, 0), 0), -3),), w=WALK, m=MANY)
        yard.change(("add", "a", "b"))
        self.assertEqual(yard.heap("a"), (((2, (1, 0), 1), 5),))
        self.assertEqual(yard.heap("b"), other)
        yard.change(("add", "b", "b"))
        self.assertEqual(yard.heap("b"), (((2, (1, 0), 0), -6), ((2, (1, 0), 1), 10)))
        for wrong in NO_NAMES + ["zz"]:
            self.assert_error(yard, ("add", wrong, None), "NoName", name=wrong)
            self.assert_error(yard, ("add", "a", wrong), "NoName", name=wrong)
        self.assert_error(yard, ("add", "a", "w"), "OtherBreadth", thing="w")
        self.assert_error(yard, ("add", "w", "m"), "OtherBreadth", thing="m")
        self.assert_error(yard, ("add", "m", "b"), "TooMany", most=24)
        yard.change(("put", "a", A))
        self.assert_error(yard, ("add", "a", "n"), "NothingLeft")

    def test_plain(self):
        family = tuple(((3, (1, 0), r), 7) for r in range(3))
        whole = ((1, (0, 0), 0), -7)
        yard = made(a=A, f=family, z=(whole, *family), m=(((29, (1, 0), 28), 1),), n=(((23, (1,), 22), 1),))
        yard.deal((("plain", "f"), ("plain", "a"), ("plain", "n")))
        self.assertEqual(yard.heap("f"), (((1, (0, 0), 0), 7),))
        self.assertEqual(yard.heap("a"), A)
        self.assertEqual(yard.heap("n"), plain_heap((((23, (1,), 22), 1),)))
        for wrong in NO_NAMES + ["zz"]:
            self.assert_error(yard, ("plain", wrong), "NoName", name=wrong)
        self.assert_error(yard, ("plain", "m"), "TooMany", most=24)
        self.assert_error(yard, ("plain", "z"), "NothingLeft")

    def test_promise_and_release(self):
        yard = made(a=A, b=A, w=WALK)
        right = [MEAN, ("mean", "a", (6, 4)), ("alike", "a", "b"), ("alike", "a", "a"), ("return", "a", (2, 7)),
                 ("held", "a", ((0, 1), (1, 0))), ("never above", "a", 3), ("return", "w", (12,)), ("never above", "b", 10 ** 40)]
        for promise in right:
            yard.change(("promise", promise))
            self.assert_error(yard, ("promise", promise), "BadPromise", thing=promise)
        self.assertEqual(yard.promises(), tuple(right))
        for wrong in NO_PROMISES:
            self.assert_error(yard, ("promise", wrong), "BadPromise", thing=wrong)
            self.assert_error(yard, ("release", wrong), "NoPromise", thing=wrong)
        for wrong in (("alike", "b", "a"), ("mean", "a", (9, 6)), ("return", "a", (2, 8))):
            self.assert_error(yard, ("release", wrong), "NoPromise", thing=wrong)
        yard.deal(tuple(("release", promise) for promise in right[1::2]))
        self.assertEqual(yard.promises(), tuple(right[::2]))

    def test_bools_are_not_the_promise_that_they_equal(self):
        yard = with_promises(made(a=A), ("never above", "a", 3), ("mean", "a", (3, 2)), ("return", "a", (0, 1)),
                             ("held", "a", ((1, 0),)))
        yard.change(("put", "b", (((1, (0, 0), 0), 1),)))
        yard = with_promises(yard, ("never above", "b", 1), ("mean", "b", (1, 1)))
        for wrong in (("never above", "b", True), ("mean", "b", (True, 1)), ("mean", "b", (1, True)),
                      ("return", "a", (False, True)), ("held", "a", ((True, False),)), ["never above", "b", 1],
                      ("mean", "b", [1, 1]), ("return", "a", [0, 1]), ("held", "a", [(1, 0)])):
            self.assert_error(yard, ("release", wrong), "NoPromise", thing=wrong)
            self.assert_error(yard, ("promise", wrong), "BadPromise", thing=wrong)

    def test_a_promise_that_is_none_any_more_is_released(self):
        yard = with_promises(made(a=A), ("return", "a", (2, 0)))
        yard.deal((("put", "a", WALK), ("release", ("return", "a", (2, 0)))))
        self.assertEqual((yard.promises(), yard.heap("a")), ((), WALK))

    def test_no_changes(self):
        yard = with_promises(made(a=A, b=WALK), MEAN)
        wrongs = brute.NO_HEAPS + [
            (), ("put",), ("put", "a"), ("put", "a", A, 1), ("put", "a", ()), ("put", "a", MANY + (((29, (1, 1), 0), 1),)),
            ("put", "a", list(A)), ("drop",), ("drop", "a", "b"), ("rename", "a"), ("rename", "a", "b", "c"), ("move", "a"),
            ("move", "a", (1, 0), 1), ("times", "a"), ("times", "a", 2, 2), ("add", "a"), ("add", "a", "b", "b"), ("plain",),
            ("plain", "a", "a"), ("promise",), ("promise", MEAN, MEAN), ("release",), ("release", MEAN, 1), ("Put", "a", A),
            ("stripe", "a", A[0][0]), ("stripe", "a", A[0][0], 1, 1), ["drop", "a"], ("drops", "a"), ("", "a"), (None, "a"),
            (("drop",), "a"), (["drop"], "a"), ({}, "a"), ("undo",), ("alike", "a", "b"), MEAN, (True, "a"), (brute.YARD, "a"),
        ] + [("put", "a", wrong) for wrong in brute.NO_HEAPS] + [("put", None, wrong) for wrong in brute.NO_HEAPS]
        for wrong in wrongs:
            self.assertEqual(self.assert_raises_and_stays(yard, yard.change, wrong), ("BadChange", {"number": 0}))
            error = self.assert_raises_and_stays(yard, yard.deal, (("move", "b", (1,)), wrong))
            self.assertEqual(error, ("BadChange", {"number": 1}))


class Deals(Cases):
    def test_no_tuple(self):
        yard = made(a=A)
        for wrong in brute.NOTHING_OF_ALL + [[], [("drop", "a")], "drop", 5]:
            if not isinstance(wrong, tuple):
                self.assertEqual(self.assert_raises_and_stays(yard, yard.deal, wrong), ("BadChange", {"number": -1}))

    def test_no_changes(self):
        yard = made(a=A)
        self.assertIsNone(yard.deal(()))
        self.assertEqual(yard.deals(), ((),))
        yard.undo()
        self.assertEqual(yard.deals(), ())
        yard.redo()
        self.assertEqual(yard.deals(), ((),))
        self.assertEqual(yard, made(a=A))

    def test_a_promise_is_broken_in_the_midst_and_kept_at_the_end(self):
        yard = with_promises(made(a=A, b=A), MEAN, ("alike", "a", "b"))
        deal = (("times", "a", 2), ("put", "b", WALK), ("times", "b", 4), ("put", "b", A), ("plain", "a"), ("times", "b", 2),
                ("stripe", "a", A[0][0], -3), ("stripe", "b", A[0][0], -3))
        self.assertIsNone(yard.deal(deal))
        self.assertEqual(yard.deals()[-1], deal)
        self.assertEqual((yard.heap("a"), yard.heap("b")), (A, A))
        error = self.assert_raises_and_stays(yard, yard.deal, deal[:-1])
        self.assertEqual(error[0], "Unkept")
        self.assertEqual(error[1]["promise"], ("alike", "a", "b"))
        self.assertIs(brute.tint(A, error[1]["fault"][1]) != 2 * brute.tint(A, error[1]["fault"][1]), True)

    def test_the_second_change_fails(self):
        yard = with_promises(made(a=A), MEAN)
        self.assertEqual(self.assert_raises_and_stays(yard, yard.deal, (("put", "b", A), ("drop", "a"))), ("BadChange", {"number": 1}))
        self.assertEqual(self.assert_raises_and_stays(yard, yard.deal, (("drop", "b"), ("put", "b", A))), ("BadChange", {"number": 0}))
        self.assertIsNone(yard.deal((("put", "b", A), ("drop", "b"))))

    def test_the_first_promise_that_is_not_kept(self):
        first, second, third = ("return", "a", (2, 0)), ("never above", "a", 3), MEAN
        yard = with_promises(made(a=A), first, second, third)
        error = self.assert_raises_and_stays(yard, yard.change, ("times", "a", 2))
        self.assertEqual((error[0], error[1]["promise"], error[1]["fault"][0]), ("Unkept", second, "above"))
        error = self.assert_raises_and_stays(yard, yard.change, ("stripe", "a", (3, (1, 0), 0), -1))
        self.assertEqual((error[0], error[1]["promise"], error[1]["fault"][0]), ("Unkept", first, "apart"))
        error = self.assert_raises_and_stays(yard, yard.change, ("times", "a", -1))
        self.assertEqual(error, ("Unkept", {"promise": second, "fault": ("below zero", A[0][0])}))
        error = self.assert_raises_and_stays(yard, yard.change, ("put", "a", WALK))
        self.assertEqual(error, ("Unkept", {"promise": first, "fault": None}))
        error = self.assert_raises_and_stays(yard, yard.deal, (("put", "a", (((1, (0,), 0), 1),)), ("release", first)))
        self.assertEqual(error, ("Unkept", {"promise": third, "fault": ("mean", (1, 1))}))

    def test_a_promise_is_none_any_more(self):
        for promise in (("return", "a", (2, 0)), ("held", "a", ((1, 0),))):
            for heap in (WALK, ROOM):
                yard = with_promises(made(a=A), promise)
                error = self.assert_raises_and_stays(yard, yard.change, ("put", "a", heap))
                self.assertEqual(error, ("Unkept", {"promise": promise, "fault": None}))
        yard = with_promises(made(a=A, b=A), ("alike", "a", "b"))
        error = self.assert_raises_and_stays(yard, yard.change, ("put", "a", WALK))
        self.assertEqual(error, ("Unkept", {"promise": ("alike", "a", "b"), "fault": ("breadths",)}))
        self.assertIsNone(yard.deal((("put", "a", WALK), ("put", "b", WALK))))

    def test_a_new_promise_that_is_not_kept(self):
        yard = made(a=A, b=A)
        for promise, fault in ((("mean", "a", (1, 2)), ("mean", (3, 2))), (("never above", "a", 2), None),
                               (("return", "a", (1, 0)), None), (("held", "a", ((0, 1),)), ("bar", (2, (1, 0))))):
            error = self.assert_raises_and_stays(yard, yard.change, ("promise", promise))
            self.assertEqual((error[0], error[1]["promise"]), ("Unkept", promise))
            self.assertIs(fault_holds(yard, promise, error[1]["fault"]), True)
            if fault is not None:
                self.assertEqual(error[1]["fault"], fault)
        error = self.assert_raises_and_stays(yard, yard.deal, (("promise", ("mean", "a", (1, 2))), ("rename", "a", "z")))
        self.assertEqual(error, ("Unkept", {"promise": ("mean", "z", (1, 2)), "fault": ("mean", (3, 2))}))

    def test_undone_and_done_again(self):
        yard = made(a=A)
        told = [str(yard)]
        for deal in ((("put", "b", WALK), ("promise", MEAN)), (("move", "a", (1, 0)),), (), (("rename", "a", "c"),)):
            yard.deal(deal)
            told.append(str(yard))
        deals = yard.deals()
        self.assertEqual(len(deals), 4)
        for many in (4, 2, 1, 3):
            for k in range(many):
                self.assertIsNone(yard.undo())
                self.assertEqual(str(yard), told[3 - k])
                self.assertEqual(yard.deals(), deals[:3 - k])
            for k in range(many):
                self.assertIsNone(yard.redo())
                self.assertEqual(str(yard), told[4 - many + k + 1])
                self.assertEqual(yard.deals(), deals[:4 - many + k + 1])
            with self.assertRaises(NothingToRedo):
                yard.redo()
        for _ in range(4):
            yard.undo()
        with self.assertRaises(NothingToUndo):
            yard.undo()

    def test_a_deal_after_an_undone_one(self):
        yard = made(a=A)
        yard.change(("put", "b", WALK))
        yard.undo()
        # A deal that is not done leaves the undone one.
        self.assert_raises_and_stays(yard, yard.change, ("drop", "zz"))
        self.assert_raises_and_stays(yard, yard.change, ("promise", ("mean", "a", (1, 1))))
        yard.redo()
        self.assertEqual(yard.names(), ("a", "b"))
        yard.undo()
        yard.deal(())
        self.assertEqual(self.assert_raises_and_stays(yard, yard.redo), ("NothingToRedo", {}))
        self.assertEqual((yard.deals(), yard.names()), (((),), ("a",)))

    def test_deals_of_one_change(self):
        yard = Yard()
        yard.change(("put", "a", A))
        yard.deal((("times", "a", 2),))
        self.assertEqual(yard.deals(), ((("put", "a", A),), (("times", "a", 2),)))


if __name__ == "__main__":
    unittest.main()
