"""The errors of slantpanes."""


class PaneError(Exception):
    """The base class of all errors of slantpanes."""


class TooMany(PaneError):
    """A tuple would have more items than most."""

    def __init__(self, most):
        self.most = most


class BadPeriod(PaneError):
    """The thing is not a period."""

    def __init__(self, thing):
        self.thing = thing


class BadStripe(PaneError):
    """The thing is not a stripe, or not one that fits here."""

    def __init__(self, thing):
        self.thing = thing


class BadCell(PaneError):
    """The thing is not a cell or a step of the due breadth."""

    def __init__(self, thing):
        self.thing = thing


class BadSteps(PaneError):
    """The thing is not a tuple of steps of a view."""

    def __init__(self, thing):
        self.thing = thing


class BadCount(PaneError):
    """The thing is not an integer that can stand here."""

    def __init__(self, thing):
        self.thing = thing


class BadHeap(PaneError):
    """The thing is not a heap, or not one that can stand here."""

    def __init__(self, thing):
        self.thing = thing


class OtherBreadth(PaneError):
    """The thing has another breadth than what stands before it."""

    def __init__(self, thing):
        self.thing = thing


class BadDirection(PaneError):
    """The thing is not a direction that can stand here."""

    def __init__(self, thing):
        self.thing = thing


class BadDirections(PaneError):
    """The thing is not a tuple of told directions."""

    def __init__(self, thing):
        self.thing = thing


class BadRow(PaneError):
    """The thing is not a row, or has no partner."""

    def __init__(self, thing):
        self.thing = thing


class BadStripes(PaneError):
    """The thing is not a tuple of stripes that can stand here."""

    def __init__(self, thing):
        self.thing = thing


class BadBound(PaneError):
    """The thing is not an integer from 0 on."""

    def __init__(self, thing):
        self.thing = thing


class BelowZero(PaneError):
    """The stripe has a tint below 0."""

    def __init__(self, stripe):
        self.stripe = stripe


class BadLooks(PaneError):
    """The thing is not a tuple of looked cells."""

    def __init__(self, thing):
        self.thing = thing


class BadTints(PaneError):
    """The thing is not a tuple of as many tints as looks."""

    def __init__(self, thing):
        self.thing = thing


class BadFloor(PaneError):
    """The thing is not a floor, or not a pair of sides."""

    def __init__(self, thing):
        self.thing = thing


class BadPrime(PaneError):
    """The thing is not one of the due primes."""

    def __init__(self, thing):
        self.thing = thing


class BadName(PaneError):
    """The thing is not a name."""

    def __init__(self, thing):
        self.thing = thing


class NoName(PaneError):
    """The name stands for nothing."""

    def __init__(self, name):
        self.name = name


class NameTaken(PaneError):
    """The name stands for a heap already."""

    def __init__(self, name):
        self.name = name


class InUse(PaneError):
    """A promise has the name."""

    def __init__(self, name):
        self.name = name


class NothingLeft(PaneError):
    """A heap would be empty."""


class BadPromise(PaneError):
    """The thing is not a promise, or is given already."""

    def __init__(self, thing):
        self.thing = thing


class NoPromise(PaneError):
    """The thing is not a promise that is given."""

    def __init__(self, thing):
        self.thing = thing


class Unkept(PaneError):
    """The promise is not kept, as the fault shows."""

    def __init__(self, promise, fault):
        self.promise = promise
        self.fault = fault


class BadChange(PaneError):
    """The change of this number cannot be made."""

    def __init__(self, number):
        self.number = number


class NothingToUndo(PaneError):
    """No deal is left to undo."""


class NothingToRedo(PaneError):
    """No deal is left to do again."""


class BadText(PaneError):
    """The line of this number cannot stand where it stands."""

    def __init__(self, line):
        self.line = line
