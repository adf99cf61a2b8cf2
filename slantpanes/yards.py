"""Part 11: a glazier's yard, which keeps heaps and promises."""

from slantpanes.changes import check_name, is_change, made
from slantpanes.errors import BadChange, BadPromise, NothingToRedo, NothingToUndo, PaneError, Unkept
from slantpanes.promises import fault_of, first_unkept, is_promise, is_right_fault
from slantpanes.texts import state_read, text_of


class Yard:
    """Heaps by names, and promises in the order in which they were given.

    The dict of the heaps and the tuple of the promises are never changed, only exchanged for others. With each deal
    that was done stand the heaps and the promises before it, with each undone one those after it.
    """

    def __init__(self):
        self.heaps = {}
        self.given = ()
        self.done = []
        self.undone = []

    def __eq__(self, other):
        return isinstance(other, Yard) and self.heaps == other.heaps and self.given == other.given

    def __str__(self):
        return str(text_of(self.heaps, self.given))

    @classmethod
    def read(cls, text):
        """The yard of a text, without deals."""
        yard = cls()
        yard.heaps, yard.given = state_read(text)
        return yard

    def copy(self):
        """An equal yard with the same deals, done and undone."""
        yard = Yard()
        yard.heaps = self.heaps
        yard.given = self.given
        yard.done = list(self.done)
        yard.undone = list(self.undone)
        return yard

    def names(self):
        """The ascending tuple of the names."""
        return tuple(sorted(self.heaps))

    def heap(self, name):
        """The heap for which the name stands."""
        check_name(self.heaps, name)
        return self.heaps[name]

    def promises(self):
        """The promises, in the order in which they were given."""
        return self.given

    def deals(self):
        """The deals, in the order in which they were done."""
        return tuple([deal for deal, _, _ in self.done])

    def deal(self, changes):
        """Do a deal: a tuple of changes."""
        if not isinstance(changes, tuple):
            raise BadChange(-1)
        heaps, given = self.heaps, self.given
        for number, change in enumerate(changes):
            if not is_change(change):
                raise BadChange(number)
            try:
                heaps, given = made(heaps, given, change)
            except PaneError:
                raise BadChange(number) from None
        self.finish(changes, heaps, given)

    def change(self, change):
        """Do a deal of one change."""
        if not is_change(change):
            raise BadChange(0)
        heaps, given = made(self.heaps, self.given, change)
        self.finish((change,), heaps, given)

    def finish(self, deal, heaps, given):
        """Do the deal that makes these heaps and promises, if all the promises are kept."""
        unkept = first_unkept(heaps, given)
        if unkept is not None:
            number, fault = unkept
            raise Unkept(given[number], fault)
        self.done.append((deal, self.heaps, self.given))
        self.undone.clear()
        self.heaps = heaps
        self.given = given

    def undo(self):
        """Undo the last deal that was done."""
        if len(self.done) == 0:
            raise NothingToUndo()
        self.pass_on(self.done, self.undone)

    def redo(self):
        """Do the last undone deal again."""
        if len(self.undone) == 0:
            raise NothingToRedo()
        self.pass_on(self.undone, self.done)

    def pass_on(self, deals, others):
        """Take the last one of the deals, with what stands with it, and put it with what was till now to the others."""
        deal, heaps, given = deals.pop()
        others.append((deal, self.heaps, self.given))
        self.heaps = heaps
        self.given = given

    def judged(self, promise):
        """The tuple of the word kept if a promise, given or not, is kept, and otherwise a right fault."""
        if not is_promise(self.heaps, promise):
            raise BadPromise(promise)
        fault = fault_of(self.heaps, promise)
        return ("kept",) if fault is None else fault


def fault_holds(yard, promise, thing):
    """Whether any value is a right fault of a promise of the yard that is not kept."""
    return is_promise(yard.heaps, promise) and is_right_fault(yard.heaps, promise, thing)
