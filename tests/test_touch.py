import unittest
from copy import deepcopy
from fractions import Fraction
from itertools import chain, combinations, product

from keelbond.touch import heap_worth, heaps, is_heap, load_of, overdrawn, within

LONG = 10 ** 40 + 7

WORTHS = [10, 0, 7, LONG]
CLAIMS = [
    ((5, 1), (0,), 0),
    ((7, 2), (0, 2), 1),
    ((9, 1), (1, 3), -4),
    ((1, 3), (), 2),
    ((4, 1), (0, 1, 2, 3), LONG),
]
PARTS = [(5, 1), (5, 2), (0, 1), (1, 3), (2, 7)]


def subsets(many):
    return chain.from_iterable(combinations(range(many), size) for size in range(many + 1))


class IsHeap(unittest.TestCase):
    def test_no_funds_are_a_heap_of_any_funds(self):
        for many in range(7):
            self.assertIs(is_heap(many, ()), True)

    def test_each_rising_tuple_of_places_is_a_heap(self):
        for many in range(7):
            for places in subsets(many):
                self.assertIs(is_heap(many, places), True)

    def test_what_does_not_rise_strictly_is_none(self):
        for places in [(1, 0), (0, 2, 1), (5, 4), (0, 1, 2, 3, 5, 4), (3, 0, 4)]:
            self.assertIs(is_heap(6, places), False)

    def test_a_place_twice_is_none(self):
        for places in [(0, 0), (5, 5), (0, 1, 1), (0, 1, 0), (2, 2, 3)]:
            self.assertIs(is_heap(6, places), False)

    def test_a_place_below_nought_is_none(self):
        for many in range(7):
            for places in [(-1,), (-1, 0), (-2, -1), (-LONG,), (0, -1)]:
                self.assertIs(is_heap(many, places), False)

    def test_a_place_beyond_the_funds_is_none(self):
        for many in range(7):
            for places in [(many,), (0, many), (many, many + 1), (LONG,)]:
                self.assertIs(is_heap(many, places), False)
            if many > 0:
                self.assertIs(is_heap(many, (many - 1,)), True)

    def test_all_short_tuples(self):
        for many in range(7):
            good = set(subsets(many))
            for size in range(4):
                for places in product(range(-1, many + 2), repeat=size):
                    self.assertIs(is_heap(many, places), places in good)


class Heaps(unittest.TestCase):
    def test_few_funds(self):
        self.assertEqual(heaps(0), [()])
        self.assertEqual(heaps(1), [(), (0,)])
        self.assertEqual(heaps(2), [(), (0,), (0, 1), (1,)])
        self.assertEqual(heaps(3), [(), (0,), (0, 1), (0, 1, 2), (0, 2), (1,), (1, 2), (2,)])

    def test_each_list_is_whole_and_rises(self):
        for many in range(7):
            told = heaps(many)
            self.assertIs(type(told), list)
            self.assertEqual(told, sorted(subsets(many)))
            self.assertEqual(len(told), 2 ** many)
            for heap in told:
                self.assertIs(type(heap), tuple)

    def test_a_new_list_each_time(self):
        for many in range(7):
            told = heaps(many)
            told.append("mine")
            told[0] = "mine"
            self.assertEqual(heaps(many), sorted(subsets(many)))


class Within(unittest.TestCase):
    def test_what_touches_nothing_lies_within_each_heap(self):
        for heap in subsets(6):
            self.assertIs(within((), heap), True)

    def test_within_no_funds_lies_only_what_touches_nothing(self):
        for touched in subsets(6):
            self.assertIs(within(touched, ()), touched == ())

    def test_plain_ones(self):
        self.assertIs(within((0, 2), (0, 1, 2)), True)
        self.assertIs(within((0, 2), (0, 2)), True)
        self.assertIs(within((0, 2), (0, 1)), False)
        self.assertIs(within((0, 1, 2), (0, 2)), False)

    def test_all_against_all(self):
        for touched in subsets(6):
            for heap in subsets(6):
                self.assertIs(within(touched, heap), set(touched) <= set(heap))


class HeapWorth(unittest.TestCase):
    def test_no_funds_single_funds_and_all(self):
        self.assertEqual(heap_worth(WORTHS, ()), 0)
        self.assertEqual(heap_worth([], ()), 0)
        self.assertEqual([heap_worth(WORTHS, (place,)) for place in range(4)], WORTHS)
        self.assertEqual(heap_worth(WORTHS, (0, 1, 2, 3)), LONG + 17)
        self.assertEqual(heap_worth(WORTHS, (0, 2)), 17)

    def test_all_heaps(self):
        worths = [1, 10, 100, 1000, 10 ** 30, 10 ** 31]
        for heap in subsets(6):
            self.assertEqual(heap_worth(worths, heap), sum(worths[place] for place in heap))

    def test_the_worths_stay_as_they_were(self):
        worths = list(WORTHS)
        heap_worth(worths, (0, 2))
        self.assertEqual(worths, WORTHS)


class LoadOf(unittest.TestCase):
    def test_no_funds_single_funds_and_all(self):
        self.assertEqual(load_of(CLAIMS, PARTS, ()), (1, 3))
        self.assertEqual(load_of(CLAIMS, PARTS, (0,)), (16, 3))
        self.assertEqual(load_of(CLAIMS, PARTS, (2,)), (1, 3))
        self.assertEqual(load_of(CLAIMS, PARTS, (0, 2)), (47, 6))
        self.assertEqual(load_of(CLAIMS, PARTS, (0, 1, 2, 3)), (341, 42))

    def test_the_row_counts_and_not_the_dues(self):
        self.assertEqual(load_of(CLAIMS, [(0, 1)] * 5, (0, 1, 2, 3)), (0, 1))
        self.assertEqual(load_of(CLAIMS, [claim[0] for claim in CLAIMS], (0,)), (16, 3))

    def test_no_claims(self):
        for heap in subsets(6):
            self.assertEqual(load_of([], [], heap), (0, 1))

    def test_all_heaps(self):
        for heap in subsets(4):
            inside = [Fraction(*part) for claim, part in zip(CLAIMS, PARTS) if set(claim[1]) <= set(heap)]
            load = sum(inside, Fraction(0))
            self.assertEqual(load_of(CLAIMS, PARTS, heap), (load.numerator, load.denominator))

    def test_what_is_handed_in_stays_as_it_was(self):
        claims, parts = deepcopy(CLAIMS), deepcopy(PARTS)
        load_of(claims, parts, (0, 2))
        self.assertEqual((claims, parts), (CLAIMS, PARTS))


class OverdrawnHeap(unittest.TestCase):
    def test_no_funds_and_no_claims(self):
        self.assertIsNone(overdrawn([], [], []))
        self.assertIsNone(overdrawn([0, 5], [], []))
        self.assertIsNone(overdrawn([], [((3, 1), (), 0)], [(0, 1)]))

    def test_none_where_a_load_is_just_the_worth(self):
        claims = [((5, 1), (0,), 0), ((7, 2), (0, 1), 0), ((7, 2), (0, 1), 1)]
        dues = [claim[0] for claim in claims]
        self.assertIsNone(overdrawn([5, 7], claims, dues))
        self.assertEqual(overdrawn([4, 8], claims, dues), (0,))
        self.assertEqual(overdrawn([5, 6], claims, dues), (0, 1))

    def test_a_little_above_the_worth_is_overdrawn(self):
        claims = [((LONG, 1), (0,), 0), ((1, 1), (0,), 0)]
        self.assertIsNone(overdrawn([LONG], claims, [(LONG, 1), (0, 1)]))
        self.assertEqual(overdrawn([LONG], claims, [(LONG, 1), (1, LONG)]), (0,))

    def test_a_claim_that_touches_nothing_overdraws_no_funds(self):
        claims = [((3, 1), (), 0)]
        self.assertEqual(overdrawn([], claims, [(1, 9)]), ())
        self.assertEqual(overdrawn([5], claims, [(1, 9)]), ())
        self.assertIsNone(overdrawn([5], claims, [(0, 1)]))

    def test_only_a_heap_of_several_is_overdrawn(self):
        claims = [((9, 1), (1, 2), 0)]
        self.assertEqual(overdrawn([100, 4, 4], claims, [(9, 1)]), (1, 2))
        self.assertIsNone(overdrawn([100, 4, 4], claims, [(8, 1)]))

    def test_the_least_one_as_tuples_are_ordered(self):
        claims = [((2, 1), (1,), 0), ((9, 1), (0, 2), 0)]
        # (0, 1, 2) has more funds than (0, 2) and (1,), yet it is ahead of both as tuples are ordered.
        self.assertEqual(overdrawn([1, 1, 1], claims, [(2, 1), (9, 1)]), (0, 1, 2))
        self.assertEqual(overdrawn([1, 1, 1], claims, [(2, 1), (0, 1)]), (1,))
        self.assertEqual(overdrawn([1, 9, 1], claims, [(2, 1), (9, 1)]), (0, 2))
        self.assertEqual(overdrawn([0, 0], [((1, 1), (1,), 0), ((1, 1), (0,), 0)], [(1, 1), (1, 1)]), (0,))

    def test_rows_of_many_kinds(self):
        claims = [((4, 1), (0,), 0), ((4, 1), (0, 1), 0), ((4, 1), (1, 2), 1), ((4, 1), (2,), 1)]
        for worths in product([0, 2, 4], repeat=3):
            for paid in product([(0, 1), (3, 2), (4, 1)], repeat=4):
                least = None
                for heap in sorted(subsets(3), reverse=True):
                    inside = [Fraction(*part) for claim, part in zip(claims, paid) if set(claim[1]) <= set(heap)]
                    if sum(inside) > sum(worths[place] for place in heap):
                        least = heap
                self.assertEqual(overdrawn(list(worths), claims, list(paid)), least)

    def test_six_funds_and_sixteen_claims(self):
        claims = [((LONG, 1), (place, place + 1), 0) for place in range(5)] * 3 + [((1, 1), (5,), 0)]
        dues = [claim[0] for claim in claims]
        self.assertIsNone(overdrawn([3 * LONG] * 5 + [1], claims, dues))
        self.assertEqual(overdrawn([3 * LONG] * 5 + [0], claims, dues), (0, 1, 2, 3, 4, 5))
        self.assertEqual(overdrawn([4 * LONG] * 5 + [0], claims, dues), (5,))

    def test_what_is_handed_in_stays_as_it_was(self):
        worths, claims, parts = list(WORTHS), deepcopy(CLAIMS), deepcopy(PARTS)
        self.assertEqual(overdrawn(worths, claims, parts), ())
        self.assertEqual((worths, claims, parts), (WORTHS, CLAIMS, PARTS))


if __name__ == "__main__":
    unittest.main()
