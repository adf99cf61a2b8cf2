"""The sums of stripes that are told without taking all apart."""

import unittest

import brute
from slantpanes.looks import do_look_alike, great_levels, plain_heap
from slantpanes.thinned import thinned


def without_families(heap):
    """Whether no p stripes of the heap with one rest have the cells of one stripe together, whatever the rests."""
    for p in brute.PRIMES:
        families = {}
        for (m, c, r), _ in heap:
            for q in [q for prime, q in brute.powers_of(m) if prime == p]:
                key = (q, tuple(number % q for number in c), r % (q // p))
                families.setdefault(key, set()).add(r % q)
        if any(len(sisters) == p for sisters in families.values()):
            return False
    return True


class Thinned(unittest.TestCase):
    def check(self, heap):
        thin = thinned(heap)
        self.assertTrue(brute.told_heap(thin))
        self.assertTrue(without_families(thin), thin)
        self.assertIs(do_look_alike(heap, thin), True)
        self.assertEqual(great_levels(thin), great_levels(heap))
        self.assertIs(thin == (), plain_heap(heap, most=10 ** 6) == ())
        return thin

    def test_random_heaps(self):
        maker = brute.Maker(301)
        for breadth, periods in ((2, [1, 2, 4]), (1, [2, 3, 4, 6, 12]), (3, [2, 3]), (1, [5, 10]), (2, [6, 12])) * 12:
            self.check(maker.heap(breadth, periods, maker.rand.randrange(1, 24)))

    def test_heaps_told_otherwise(self):
        maker = brute.Maker(302)
        for primes in ((2,), (3,), (2, 3), (2, 5, 7)) * 8:
            breadth = maker.rand.randrange(1, 4)
            heap = maker.heap(breadth, [maker.period(10 ** 20, primes)], 3)
            other = maker.retold(heap, primes, 22)
            self.check(other)
            both = dict(heap)
            for stripe, tint in other:
                both[stripe] = both.get(stripe, 0) - tint
            self.assertEqual(self.check(brute.heap_of(both)), ())

    def test_all_stripes_of_a_period(self):
        maker = brute.Maker(303)
        for m, breadth in ((2, 2), (4, 2), (3, 2), (6, 2), (12, 1), (30, 1), (8, 1)):
            tints = {stripe: maker.rand.randrange(1, 4) for stripe in brute.stripes_of(m, breadth)}
            self.check(brute.heap_of(tints))
            self.check(brute.heap_of({stripe: 1 for stripe in tints}))

    def test_nothing_is_exchanged_if_no_family_is_there(self):
        stripe = (210 ** 40, (1, 3), 210 ** 40 - 1)
        self.assertEqual(thinned(((stripe, 5),)), ((stripe, 5),))
        self.assertEqual(thinned(()), ())


if __name__ == "__main__":
    unittest.main()
