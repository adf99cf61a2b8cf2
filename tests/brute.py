"""What the tests share: the document's definitions word by word, and values of all kinds."""

import itertools
import random
from fractions import Fraction

from slantpanes.errors import PaneError
from slantpanes.yards import Yard

PRIMES = (2, 3, 5, 7, 11, 13, 17, 19, 23, 29)


def deep(levels):
    """A tuple nested as deep as this."""
    thing = ()
    for _ in range(levels - 1):
        thing = (thing,)
    return thing


YARD = Yard.read("yard\nheap a\nstripe 2 1 0 0 3\nmean a 3 2")

# Values that are no cell, no period, no stripe and no heap, unless they stand in a list below them.
NOTHING_OF_ALL = [
    None, True, False, "", "a", "alike", "1\n2", [], {}, [1], [1, 2], {"m": 2}, {1: (2,)}, (True,), (1, True),
    (False, 0), ("1",), ((1,),), (None, None), ([1, 2],), (1, 2, 3, 4), (1, [2], 3), (1, 2, "3"), deep(12),
    "x" * 2000, [[]] * 3000, {"a": [1, {"b": (None,)}]}, YARD, (YARD,), [Yard(), YARD], {"yard": YARD}, (Yard(), 1),
    (1, YARD), (YARD, Yard(), 2),
]
NO_CELLS = NOTHING_OF_ALL + [(), 5, -1, 10 ** 99, (0,) * 4, (1, 2, None), [0, 0], (10 ** 59, False)]
NO_PERIODS = NOTHING_OF_ALL + [
    0, -1, -6, (), (6,), [6], (YARD,), "6", 31, 37, 62, 2 * 10 ** 39 * 31, 1001, 2310, 2 * 23 * 29, 3 * 17 * 23, 10 ** 98 + 1,
    7 ** 20 * 11 * 13, 29 ** 27 * 31,
]
NO_STRIPES = NOTHING_OF_ALL + [
    (), 6, -6, (2, (1, 0)), (2, (1, 0), 0, 0), [2, (1, 0), 0], (2, [1, 0], 0), (2, (1, 0), [0]), (2, (1, 0), None),
    (True, (0, 0), 0), (1, (False, 0), 0), (1, (0, 0), False), (2, (True, 0), 0), (2, (1, 0), True), (2, (1, 0), "0"),
    (2, (1, 2), 0), (2, (-1, 0), 0), (2, (1, 0), 2), (2, (1, 0), -1), (1, (1, 0), 0), (1, (0, 0), 1), (2, (0, 0), 0),
    (6, (2, 4), 0), (6, (0, 3), 1), (31, (1, 0), 0), (1001, (1, 0), 0), (0, (1, 0), 0), (-2, (1, 0), 0), (2, (), 0),
    (2, (1, 0, 0, 0), 0), (2, 1, 0), (2, (1, (0,)), 0), ((2,), (1, 0), 0), (2, ("1", 0), 0), ((1, 0), 2, 0),
    (0, (0, 0), 0), (10 ** 39, (10 ** 39, 1), 0), (10 ** 39, (10, 2), 0), (YARD, (1, 0), 0), (2, YARD, 0),
    (2, (YARD, 0), 0), (2, (1, 0), YARD),
]
NO_HEAPS = NOTHING_OF_ALL + [
    0, 7, (2, (1, 0), 0), ((2, (1, 0), 0), 1), [((2, (1, 0), 0), 1)], ([(2, (1, 0), 0), 1],), (((2, (1, 0), 0),),),
    (((2, (1, 0), 0), 0),), (((2, (1, 0), 0), True),), (((2, (1, 0), 0), False),), (((2, (1, 0), 0), "1"),),
    (((2, (1, 0), 0), None),), (((2, (1, 0), 0), (1,)),), (((2, (1, 0), 0), 1, 1),), (((2, (2, 0), 0), 1),),
    (((2, (1, 0), 0), 1), ((2, (1, 0), 0), 1)), (((2, (1, 0), 0), 1), ((2, (1, 0), 0), 2)),
    (((2, (1, 0), 1), 1), ((2, (1, 0), 0), 1)), (((3, (1, 0), 0), 1), ((2, (1, 0), 0), 1)),
    (((2, (1, 0), 0), 1), ((2, (1, 1, 0), 0), 1)), (((2, (1,), 0), 1), ((2, (1, 0), 0), 1)),
    (((2, (1, 0), 0), 1), [(2, (1, 1), 0), 1]), (((2, (1, 0), 0), 1), ()), (((2, (1, 0), 0), 1), None),
    (((2, (1, 0), 0), 1), ((2, (1, 1), False), 1)), (((True, (0, 0), 0), 1),), ((None, 1),), (((31, (1, 0), 0), 1),),
    ((YARD, 1),), (((2, (1, 0), 0), YARD),), (YARD, ((2, (1, 0), 0), 1)), (((2, (1, 0), 0), 1), YARD),
]


def is_whole(thing):
    return isinstance(thing, int) and not isinstance(thing, bool)


def told_period(thing):
    """[1.2] by its words."""
    if not is_whole(thing) or thing < 1:
        return False
    rest, multiplied = thing, 1
    for p in PRIMES:
        if rest % p == 0:
            multiplied *= p
        while rest % p == 0:
            rest //= p
    return rest == 1 and multiplied <= 1000


def told_cell(thing):
    return isinstance(thing, tuple) and len(thing) in (1, 2, 3) and all(is_whole(number) for number in thing)


def told_stripe(thing):
    """[1.3] by its words."""
    if not isinstance(thing, tuple) or len(thing) != 3:
        return False
    m, c, r = thing
    if not told_period(m) or not told_cell(c) or not is_whole(r):
        return False
    if any(number < 0 or number >= m for number in c + (r,)):
        return False
    return not any(m % p == 0 and all(number % p == 0 for number in c) for p in PRIMES)


def told_heap(thing):
    """[2.1] by its words."""
    if not isinstance(thing, tuple):
        return False
    for item in thing:
        if not isinstance(item, tuple) or len(item) != 2:
            return False
        if not told_stripe(item[0]) or not is_whole(item[1]) or item[1] == 0:
            return False
    stripes = [item[0] for item in thing]
    one_breadth = len(set(len(stripe[1]) for stripe in stripes)) <= 1
    return one_breadth and list(thing) == sorted(thing) and len(set(stripes)) == len(stripes)


def on(stripe, cell):
    m, c, r = stripe
    return (sum(a * b for a, b in zip(c, cell)) - r) % m == 0


def tint(heap, cell):
    return sum(worth for stripe, worth in heap if on(stripe, cell))


def box(breadth, side):
    return itertools.product(range(side), repeat=breadth)


def look(heap, breadth, side):
    """The tints in a box; its side is to be a multiple of all periods."""
    return [tint(heap, cell) for cell in box(breadth, side)]


def stripes_of(m, breadth):
    """All stripes of the period and the breadth."""
    found = [(m, c, r) for c in itertools.product(range(m), repeat=breadth) for r in range(m)]
    return [stripe for stripe in found if told_stripe(stripe)]


def powers_of(m):
    """Pairs of the primes of m and the powers of them."""
    found = []
    for p in PRIMES:
        q = 1
        while m % (q * p) == 0:
            q *= p
        if q > 1:
            found.append((p, q))
    return found


def told_normal(stripe):
    """[1.4] by its words."""
    m, c, _ = stripe
    return all([number for number in c if number % p][0] % q == 1 for p, q in powers_of(m))


def told_plain(stripe):
    """[2.3] by its words."""
    m, _, r = stripe
    return told_normal(stripe) and all(r % q < (p - 1) * q // p for p, q in powers_of(m))


def plain_pieces(stripe):
    """How many plain stripes one stripe, which is normal, becomes, by the last sentence of [2.3]."""
    many = 1
    for p, q in powers_of(stripe[0]):
        figures, rest, part = 0, stripe[2] % q, q
        while part > 1 and rest // (part // p) == p - 1:
            figures += 1
            part //= p
            rest %= part
        many *= 1 + figures * (p - 1)
    return many


def units_of(m):
    return [u for u in range(1, m + 1) if all(u % p for p, _ in powers_of(m))]


def heap_of(tints):
    """The heap of a dict of tints."""
    return tuple(sorted((stripe, worth) for stripe, worth in tints.items() if worth != 0))


def solved(rows, wanted):
    """The fractions by which the rows add up to what is wanted, None where there are none or several."""
    count = len(rows)
    table = [[Fraction(row[k]) for row in rows] + [Fraction(wanted[k])] for k in range(len(wanted))]
    done = 0
    for column in range(count):
        pivot = next((k for k in range(done, len(table)) if table[k][column] != 0), None)
        if pivot is None:
            return None
        table[done], table[pivot] = table[pivot], table[done]
        table[done] = [number / table[done][column] for number in table[done]]
        for k in range(len(table)):
            if k != done and table[k][column] != 0:
                factor = table[k][column]
                table[k] = [a - factor * b for a, b in zip(table[k], table[done])]
        done += 1
    if any(row[count] != 0 for row in table[done:]):
        return None
    return [table[k][count] for k in range(count)]


class Maker:
    """Makes stripes and heaps, the same ones for the same seed."""

    def __init__(self, seed):
        self.rand = random.Random(seed)

    def stripe(self, breadth, periods):
        while True:
            m = self.rand.choice(periods)
            stripe = (m, tuple(self.rand.randrange(m) for _ in range(breadth)), self.rand.randrange(m))
            if told_stripe(stripe):
                return stripe

    def heap(self, breadth, periods, pairs, greatest=3):
        tints = {}
        for _ in range(pairs):
            sign = self.rand.choice((1, -1))
            tints[self.stripe(breadth, periods)] = sign * self.rand.randrange(1, greatest + 1)
        return heap_of(tints)

    def parted(self, stripe, p):
        """The p stripes of [2.2] that together have the cells of this one; the period m p is to be one."""
        m, c, r = stripe
        while True:
            numbers = tuple(number + m * self.rand.randrange(p) for number in c)
            if told_stripe((m * p, numbers, r)):
                return [(m * p, numbers, r + e * m) for e in range(p)]

    def retold(self, heap, primes, most):
        """A heap of at most so many pairs that looks like this one, told otherwise."""
        tints = dict(heap)
        for _ in range(6):
            stripe = self.rand.choice(sorted(tints)) if tints else (1, (0, 0), 0)
            p = self.rand.choice(primes)
            if stripe not in tints or len(tints) + p > most or not told_period(stripe[0] * p):
                continue
            worth = tints.pop(stripe)
            for child in self.parted(stripe, p):
                m, c, r = self.turned(child)
                tints[(m, c, r)] = tints.get((m, c, r), 0) + worth
        return heap_of(tints)

    def turned(self, stripe):
        """The same stripe, its numbers times a unit."""
        m, c, r = stripe
        while True:
            u = self.rand.randrange(m)
            if told_stripe((m, (u,), 0)):
                return (m, tuple(u * number % m for number in c), u * r % m)

    def period(self, greatest, primes=PRIMES):
        """A period that is no longer a period below the greatest one when it is taken times its primes."""
        while True:
            lot = self.rand.sample(primes, self.rand.randrange(1, min(4, len(primes)) + 1))
            multiplied = 1
            for p in lot:
                multiplied *= p
            if multiplied <= min(1000, greatest):
                break
        m = multiplied
        while True:
            p = self.rand.choice(lot)
            if m * p > greatest:
                return m
            m *= p


def spoiled(thing):
    """Copies of a value with one part replaced, left out, repeated or exchanged with the next one."""
    if isinstance(thing, tuple):
        found = [list(thing), thing + (0,), (thing,), None, "()"]
        for k, part in enumerate(thing):
            found.append(thing[:k] + thing[k + 1:])
            found.append(thing[:k + 1] + thing[k:])
            if k + 1 < len(thing):
                found.append(thing[:k] + (thing[k + 1], part) + thing[k + 2:])
            found.extend([thing[:k] + (other,) + thing[k + 1:] for other in spoiled(part)])
        return found
    if isinstance(thing, str):
        return [thing + "s", thing[:-1], thing.upper(), (thing,), None, 0, YARD]
    return [thing + 1, thing - 1, -thing, thing == 1, thing != 0, str(thing), (thing,), [thing], None, YARD]


def raised(call, *told, **named):
    """The name of the error of slantpanes that a call raises with its parameters, None if it raises none."""
    try:
        call(*told, **named)
    except PaneError as error:
        return (error.__class__.__name__, vars(error))
    return None


def same(one, other):
    """Whether two values are equal, bools and integers being unlike."""
    if isinstance(one, tuple) and isinstance(other, tuple):
        return len(one) == len(other) and all(same(a, b) for a, b in zip(one, other))
    return one.__class__ == other.__class__ and one == other


def told_fraction(thing):
    """A fraction in lowest terms, as this package returns it."""
    right = isinstance(thing, tuple) and len(thing) == 2 and all(is_whole(number) for number in thing) and thing[1] >= 1
    return right and Fraction(*thing).denominator == thing[1]
