import unittest
from copy import deepcopy
from fractions import Fraction
from random import Random

from cases import LONG, SoonCase, own_level, part_of, row, some_cases, some_rows, value_of
from keelbond.level import filled, level, stopped

NOUGHT = (0, 1)
ONE = (1, 1)

# Two of three funds are scarce: the first for those that touch it, the heap of the first two for all three claims.
WORTHS = [2, 4, 100]
CLAIMS = [((8, 1), (0,), 0), ((8, 1), (0, 1), 0), ((8, 1), (1, 2), 0), ((5, 1), (2,), 0)]


def cases(seed, count):
    """(worths, claims, parts, places) as the file's functions take them: some claims are paid, some to be raised."""
    chance = Random(seed)
    for worths, claims in some_cases(seed, count):
        raised = [place for place, claim in enumerate(claims) if claim[0] != NOUGHT and chance.random() < 0.6]
        others = [claim for place, claim in enumerate(claims) if place not in raised]
        paid = list(next(some_rows(chance, worths, others, 1)))
        # What stands at the places is not looked at, so it is as wild as it can be.
        parts = [(10 ** 9, 7) if place in raised else paid.pop(0) for place in range(len(claims))]
        yield worths, claims, parts, raised


class Level(SoonCase):
    def test_no_places(self):
        self.assertEqual(level([], [], [], []), ONE)
        self.assertEqual(level(WORTHS, CLAIMS, row(0, 0, 0, 0), []), ONE)
        self.assertEqual(level(WORTHS, CLAIMS, row(2, 4, 0, 0), []), ONE)
        self.assertEqual(level([0], [((3, 1), (0,), 0)], row(0), []), ONE)

    def test_one_claim(self):
        for worth, fill in [(0, NOUGHT), (1, (1, 8)), (6, (3, 4)), (7, (7, 8)), (8, ONE), (9, ONE), (LONG, ONE)]:
            self.assertEqual(level([worth], [((8, 1), (0,), 0)], row(0), [0]), fill)

    def test_a_heap_that_all_others_leave_nothing_to(self):
        self.assertEqual(level(WORTHS, CLAIMS, row(2, 4, 0, 0), [2, 3]), ONE)
        self.assertEqual(level(WORTHS, CLAIMS, row(0, 6, 0, 0), [0]), NOUGHT)
        self.assertEqual(level(WORTHS, CLAIMS, row(2, 0, 0, 0), [1, 2]), (1, 2))
        self.assertEqual(level(WORTHS, CLAIMS, row(2, 4, 0, 0), []), ONE)
        self.assertEqual(level([5, 0], [((3, 1), (1,), 0), ((3, 1), (0,), 0)], row(0, 0), [0, 1]), NOUGHT)

    def test_a_claim_that_touches_nothing(self):
        claims = [((3, 1), (), 0), ((3, 1), (0,), 0)]
        self.assertEqual(level([5], claims, row(0, 0), [0]), NOUGHT)
        self.assertEqual(level([5], claims, row(0, 0), [0, 1]), NOUGHT)
        self.assertEqual(level([5], claims, row(0, 0), [1]), ONE)
        self.assertEqual(level([], claims[:1], row(0), [0]), NOUGHT)

    def test_of_several_heaps_the_least_one_counts(self):
        self.assertEqual(level(WORTHS, CLAIMS, row(0, 0, 0, 0), [0, 1, 2, 3]), (1, 4))
        self.assertEqual(level([4, 4, 100], CLAIMS, row(0, 0, 0, 0), [0, 1, 2, 3]), (1, 2))
        # Each fund by itself would do; the heap of both does not.
        claims = [((6, 1), (0,), 0), ((6, 1), (1,), 0), ((6, 1), (0, 1), 0)]
        self.assertEqual(level([6, 6], claims, row(0, 0, 0), [0, 1, 2]), (2, 3))
        self.assertEqual(level([3, 20], claims, row(0, 0, 0), [0, 1, 2]), (1, 2))
        self.assertEqual(level([20, 3], claims, row(0, 0, 0), [0, 1, 2]), (1, 2))

    def test_what_others_are_paid_is_taken_off(self):
        claims = [((6, 1), (0,), 0), ((6, 1), (0, 1), 0), ((9, 1), (0, 1), 0)]
        self.assertEqual(level([5, 5], claims, row(0, 0, 0), [2]), ONE)
        self.assertEqual(level([5, 5], claims, row(2, Fraction(7, 2), 0), [2]), (1, 2))
        self.assertEqual(level([5, 5], claims, row(5, 5, 0), [2]), NOUGHT)
        # What is paid outside the heap counts where the heap is larger alone.
        self.assertEqual(level([5, 5], claims, row(0, 6, 0), [0]), (2, 3))
        self.assertEqual(level([5, 5], claims, row(0, 0, 5), [0]), (5, 6))

    def test_never_above_one(self):
        for worth in [16, 17, 10 ** 50]:
            self.assertEqual(level([worth], [((8, 1), (0,), 0)] * 2, row(0, 0), [0, 1]), ONE)
        self.assertEqual(level([15], [((8, 1), (0,), 0)] * 2, row(0, 0), [0, 1]), (15, 16))

    def test_what_stands_at_the_places_is_not_looked_at(self):
        for there in [NOUGHT, (2, 1), (8, 1), (10 ** 9, 7), (-5, 3), None]:
            parts = [there, (5, 1), there, (0, 1)]
            self.assertEqual(level(WORTHS, CLAIMS, parts, [0, 2]), (1, 8))
            self.assertEqual(stopped(WORTHS, CLAIMS, parts, [0, 2]), [0])
            self.assertEqual(filled(WORTHS, CLAIMS, parts, [0, 2]), row(1, 5, 8, 0))

    def test_parts_and_dues_with_unders(self):
        claims = [((7, 3), (0,), 0), ((5, 2), (0,), 0), ((11, 5), (0, 1), 0)]
        fill = part_of(Fraction(20, 7) / Fraction(68, 15))
        self.assertEqual(level([3, 0], claims, row(0, Fraction(1, 7), 0), [0, 2]), fill)

    def test_large_numbers(self):
        claims = [((LONG, 1), (0,), 0), ((LONG + 1, 1), (0,), 0)]
        self.assertEqual(level([LONG], claims, row(0, 0), [0, 1]), part_of(Fraction(LONG, 2 * LONG + 1)))
        self.assertEqual(level([2 * LONG + 1], claims, row(0, 0), [0, 1]), ONE)
        self.assertEqual(level([2 * LONG], claims, row(0, 0), [0, 1]), (2 * LONG, 2 * LONG + 1))

    def test_ranks_are_not_looked_at(self):
        claims = [((8, 1), (0,), 7), ((8, 1), (0,), -7)]
        self.assertEqual(level([4], claims, row(0, 0), [0, 1]), (1, 4))
        self.assertEqual(stopped([4], claims, row(0, 0), [0, 1]), [0, 1])
        self.assertEqual(filled([4], claims, row(0, 0), [0, 1]), row(2, 2))

    def test_against_a_reckoning_of_its_own(self):
        for worths, claims, parts, places in cases(51, 300):
            paid = [value_of(part) for part in parts]
            fill, halted = own_level(worths, claims, paid, places)
            self.assertEqual(level(worths, claims, parts, places), part_of(fill))
            self.assertEqual(stopped(worths, claims, parts, places), halted)


class Stopped(SoonCase):
    def test_no_places(self):
        self.assertEqual(stopped([], [], [], []), [])
        self.assertEqual(stopped([0], [((3, 1), (0,), 0)], row(0), []), [])

    def test_those_within_a_spent_heap(self):
        self.assertEqual(stopped(WORTHS, CLAIMS, row(0, 0, 0, 0), [0, 1, 2, 3]), [0])
        self.assertEqual(stopped(WORTHS, CLAIMS, row(2, 0, 0, 0), [1, 2, 3]), [1])
        self.assertEqual(stopped([8, 4, 0], CLAIMS, row(0, 0, 0, 0), [0, 1, 2, 3]), [3])

    def test_all_where_the_level_is_one(self):
        for places in [[0], [0, 1], [0, 1, 2], [1, 3], [0, 1, 2, 3]]:
            self.assertEqual(stopped([100, 100, 100], CLAIMS, row(0, 0, 0, 0), places), places)

    def test_all_where_the_level_is_just_one_and_a_heap_is_spent(self):
        # Fund 0 is just spent by claim 0; claim 3 lies within no spent heap, and yet has its due.
        self.assertEqual(stopped([8, 100, 100], CLAIMS, row(0, 0, 0, 0), [0, 3]), [0, 3])
        self.assertEqual(stopped([7, 100, 100], CLAIMS, row(0, 0, 0, 0), [0, 3]), [0])

    def test_a_larger_heap_stops_those_within_it_alone(self):
        claims = [((6, 1), (0,), 0), ((6, 1), (0, 1), 0), ((6, 1), (1,), 0), ((6, 1), (1, 2), 0)]
        self.assertEqual(stopped([5, 4, 30], claims, row(0, 0, 0, 0), [0, 1, 2, 3]), [0, 1, 2])

    def test_several_heaps_spent_at_once(self):
        claims = [((4, 1), (0,), 0), ((5, 1), (3,), 0), ((8, 1), (1,), 0), ((6, 1), (2,), 0)]
        self.assertEqual(level([2, 4, 3, 5], claims, row(0, 0, 0, 0), [0, 1, 2, 3]), (1, 2))
        self.assertEqual(stopped([2, 4, 3, 5], claims, row(0, 0, 0, 0), [0, 1, 2, 3]), [0, 2, 3])
        # Two heaps with a fund in common, and no smaller one spent.
        claims = [((4, 1), (0, 1), 0), ((4, 1), (1, 2), 0), ((1, 1), (0,), 0), ((9, 1), (3,), 0)]
        self.assertEqual(stopped([1, 1, 1, 9], claims, row(0, 0, 0, 0), [0, 1, 3]), [0, 1])

    def test_at_a_level_of_nought(self):
        claims = [((3, 1), (), 0), ((3, 1), (0,), 0), ((3, 1), (1,), 0), ((3, 1), (0, 1), 0)]
        self.assertEqual(stopped([5, 5], claims, row(0, 0, 0, 0), [0, 1, 2, 3]), [0])
        self.assertEqual(stopped([0, 5], claims, row(0, 0, 0, 0), [0, 1, 2, 3]), [0, 1])
        self.assertEqual(stopped([0, 5], claims, row(0, 0, 0, 0), [1, 2, 3]), [1])
        self.assertEqual(stopped([5, 5], claims, row(0, 3, 3, 4), [0, 1]), [0])

    def test_a_spent_heap_that_none_of_them_lies_within(self):
        claims = [((3, 1), (0,), 0), ((3, 1), (0, 1), 0), ((6, 1), (1,), 0)]
        self.assertEqual(stopped([3, 3], claims, row(3, 0, 0), [1, 2]), [1, 2])
        self.assertEqual(stopped([3, 9], claims, row(3, 0, 0), [1, 2]), [1, 2])
        self.assertEqual(stopped([3, 3], claims, row(3, 0, 0), [2]), [2])

    def test_it_rises(self):
        claims = [((3, 1), (fund,), 0) for fund in [5, 0, 4, 1, 3, 2]]
        self.assertEqual(stopped([1] * 6, claims, row(0, 0, 0, 0, 0, 0), [0, 1, 2, 3, 4, 5]), [0, 1, 2, 3, 4, 5])
        self.assertEqual(stopped([1, 9, 1, 9, 1, 9], claims, row(0, 0, 0, 0, 0, 0), [0, 1, 2, 3, 4, 5]), [1, 2, 5])


class Filled(SoonCase):
    def test_no_places(self):
        self.assertEqual(filled([], [], [], []), [])
        self.assertEqual(filled(WORTHS, CLAIMS, row(1, 2, 3, 4), []), row(1, 2, 3, 4))

    def test_one_rise(self):
        self.assertEqual(filled([6], [((8, 1), (0,), 0)] * 2, row(0, 0), [0, 1]), row(3, 3))
        self.assertEqual(filled([60], [((8, 1), (0,), 0)] * 2, row(0, 0), [0, 1]), row(8, 8))

    def test_several_rises_one_behind_the_other(self):
        # Fund 0 is spent first, then the heap of the first two, the others get their dues.
        self.assertEqual(filled(WORTHS, CLAIMS, row(0, 0, 0, 0), [0, 1, 2, 3]), row(2, 4, 8, 5))
        claims = [((10, 1), tuple(range(fund + 1)), 0) for fund in range(6)]
        told = filled([1, 2, 3, 4, 5, 6], claims, row(0, 0, 0, 0, 0, 0), [0, 1, 2, 3, 4, 5])
        self.assertEqual(told, row(1, 2, 3, 4, 5, 6))
        told = filled([1, 2, 9, 4, 5, 6], claims, row(0, 0, 0, 0, 0, 0), [0, 1, 2, 3, 4, 5])
        self.assertEqual(told, row(1, 2, 6, 6, 6, 6))

    def test_claims_of_unlike_dues_rise_by_one_fill(self):
        claims = [((3, 1), (0,), 0), ((9, 1), (0, 1), 0), ((12, 1), (1,), 0), ((1, 2), (0,), 0)]
        self.assertEqual(filled([49, 0], claims, row(0, 0, 0, 0), [0, 1, 2, 3]), row(3, 9, 0, Fraction(1, 2)))
        self.assertEqual(filled([8, 0], claims, row(0, 0, 0, 0), [0, 1]), row(2, 6, 0, 0))
        told = filled([5, 7], claims, row(0, 0, 0, 0), [0, 1, 2, 3])
        self.assertEqual(told, [part_of(Fraction(24, 49) * value_of(claim[0])) for claim in claims])

    def test_those_that_touch_nothing_stop_at_once_and_hold_up_no_other(self):
        claims = [((3, 1), (), 0), ((3, 1), (0,), 0)]
        self.assertEqual(filled([2], claims, [(9, 1), (9, 1)], [0, 1]), row(0, 2))

    def test_places_apart_from_these_are_as_handed_in(self):
        parts = [(1, 2), (9, 1), (5, 3), (9, 1)]
        told = filled([2, 2, 9], CLAIMS, parts, [1, 3])
        self.assertEqual(told, [(1, 2), (7, 2), (5, 3), (5, 1)])
        for worths, claims, parts, places in cases(52, 60):
            told = filled(worths, claims, parts, places)
            self.assertEqual(len(told), len(claims))
            for place in range(len(claims)):
                if place not in places:
                    self.assertEqual(told[place], parts[place])

    def test_against_a_reckoning_of_its_own(self):
        for worths, claims, parts, places in cases(53, 200):
            paid, going = [value_of(part) for part in parts], list(places)
            while going:
                fill, halted = own_level(worths, claims, paid, going)
                for place in halted:
                    paid[place] = fill * value_of(claims[place][0])
                going = [place for place in going if place not in halted]
            told = filled(worths, claims, parts, places)
            self.assertIs(type(told), list)
            self.assertEqual(told, [part_of(value) for value in paid])

    def test_very_large_numbers_end_soon(self):
        claims = [(part_of(Fraction(10 ** 300 + 7 * fund, 10 ** 200 + fund)), (fund,), 0) for fund in range(6)]
        told = filled([10 ** 99 + fund for fund in range(6)], claims, row(0, 0, 0, 0, 0, 0), [0, 1, 2, 3, 4, 5])
        self.assertEqual(told, row(*[10 ** 99 + fund for fund in range(6)]))


class Kept(SoonCase):
    def test_what_is_handed_in_stays_as_it_was(self):
        for asked in [level, stopped, filled]:
            for places in [[], [0], [0, 1, 2, 3]]:
                handed = deepcopy((WORTHS, CLAIMS, row(2, 0, 0, 0), places))
                asked(*handed)
                self.assertEqual(handed, (WORTHS, CLAIMS, row(2, 0, 0, 0), places))

    def test_the_places_told_are_a_new_list(self):
        for worths in [WORTHS, [100, 100, 100], [0, 0, 0]]:
            for places in [[], [0], [0, 1, 2, 3]]:
                parts = row(0, 0, 0, 0)
                first = stopped(worths, CLAIMS, parts, places)
                whole, handed = list(first), list(places)
                first.append("mine")
                self.assertEqual(places, handed)
                self.assertEqual(stopped(worths, CLAIMS, parts, places), whole)

    def test_the_row_told_is_a_new_list(self):
        for places in [[], [0], [0, 1, 2, 3]]:
            parts = row(0, 0, 0, 0)
            first = filled(WORTHS, CLAIMS, parts, places)
            whole = list(first)
            first[3] = "mine"
            first.append("mine")
            self.assertEqual(parts, row(0, 0, 0, 0))
            self.assertEqual(filled(WORTHS, CLAIMS, parts, places), whole)


if __name__ == "__main__":
    unittest.main()
