import unittest
from copy import deepcopy
from fractions import Fraction
from itertools import permutations, product
from random import Random

from cases import (
    LONG, PRIMES, SoonCase, claim, overdrawn_heaps, own_papers, own_shared, part_of, row, some_cases, some_claims,
    some_rows, subsets, value_of,
)
from keelbond.paper import fill, good_paper, is_sharing, paper
from keelbond.share import shared

WORTHS = [2, 4, 100]
CLAIMS = [claim(8, (0,)), claim(8, (0, 1)), claim(8, (1, 2)), claim(5, ())]


def any_rows(chance, claims, count):
    """Rows of parts from nought to the due, most of which cannot be paid."""
    for turn in range(count):
        yield [part_of(value_of(due) * chance.choice([0, 1, Fraction(1, 2), Fraction(1, 3), Fraction(2, 3)]))
               for due, touched, rank in claims]


def bent_rows(claims, parts):
    """Rows a little beside a row, each from nought to the due."""
    for place, (due, touched, rank) in enumerate(claims):
        paid = value_of(parts[place])
        for other in [paid / 2, value_of(due), paid + (value_of(due) - paid) / 1000, Fraction(0)]:
            yield parts[:place] + [part_of(other)] + parts[place + 1:]
    for one, other in permutations(range(len(claims)), 2):
        moved = min(value_of(parts[one]), value_of(claims[other][0]) - value_of(parts[other])) / 1000
        changed = list(parts)
        changed[one] = part_of(value_of(parts[one]) - moved)
        changed[other] = part_of(value_of(parts[other]) + moved)
        yield changed


class Fill(unittest.TestCase):
    def test_a_due_of_nought(self):
        self.assertEqual(fill((0, 1), (0, 1)), (1, 1))

    def test_nothing_paid(self):
        for due in [(1, 1), (7, 3), (1, LONG), (LONG, 1)]:
            self.assertEqual(fill(due, (0, 1)), (0, 1))

    def test_all_paid(self):
        for due in [(1, 1), (7, 3), (1, LONG), (LONG, 9)]:
            self.assertEqual(fill(due, due), (1, 1))

    def test_something_paid(self):
        for due, paid, told in [((8, 1), (2, 1), (1, 4)), ((8, 1), (6, 1), (3, 4)), ((3, 2), (1, 1), (2, 3)),
                                ((3, 2), (3, 4), (1, 2)), ((7, 3), (2, 9), (2, 21)), ((10, 1), (5, 2), (1, 4))]:
            self.assertEqual(fill(due, paid), told)

    def test_large_unders(self):
        self.assertEqual(fill((LONG, 3), (LONG - 1, 3)), (LONG - 1, LONG))
        self.assertEqual(fill((1, LONG), (1, LONG * 6)), (1, 6))
        for one, other in permutations(PRIMES[:6], 2):
            told = fill((one, other), (1, one * other))
            self.assertEqual(told, (1, one ** 2))
            self.assertEqual(fill((5, one), (2, other)), (2 * one, 5 * other))

    def test_in_lowest_terms(self):
        for due in range(1, 30):
            for paid in range(due + 1):
                for under in [1, 4, 6]:
                    told = fill(part_of(Fraction(due, under)), part_of(Fraction(paid, under)))
                    self.assertEqual(told, part_of(Fraction(paid, due)))
                    self.assertIs(type(told), tuple)


class GoodPaper(SoonCase):
    def judge(self, worths, claims, parts, place, good):
        """Of all heaps just the told ones are good."""
        for heap in subsets(len(worths)):
            self.assertIs(good_paper(worths, claims, parts, place, heap), heap in good, (place, heap))
        self.assertEqual(own_papers(worths, claims, parts, place), sorted(good, key=lambda heap: (len(heap), heap)))

    def test_papers_of_a_sharing_out(self):
        parts = row(2, 4, 8, 0)
        self.judge(WORTHS, CLAIMS, parts, 0, [(0,)])
        self.judge(WORTHS, CLAIMS, parts, 1, [(0, 1)])

    def test_a_claim_that_is_paid_its_due_has_none(self):
        self.judge(WORTHS, CLAIMS, row(2, 4, 8, 0), 2, [])
        # The heap is spent, but the claim lacks nothing.
        self.judge([5], [claim(5, (0,)), claim(3, (0,), 1)], row(5, 0), 0, [])
        self.judge([5], [claim(5, (0,)), claim(3, (0,), 1)], row(5, 0), 1, [(0,)])
        self.judge([0, 0], [claim(0, (0,)), claim(0, ())], row(0, 0), 0, [])
        self.judge([0, 0], [claim(0, (0,)), claim(0, ())], row(0, 0), 1, [])

    def test_heaps_that_the_claim_does_not_lie_within(self):
        claims = [claim(5, (0, 1)), claim(4, (0,)), claim(4, (1,)), claim(9, (2,))]
        parts = row(0, 4, 4, 6)
        self.judge([4, 4, 6], claims, parts, 0, [])
        claims = [claim(5, (0, 1), 1), claim(4, (0,)), claim(4, (1,)), claim(9, (2,))]
        self.judge([4, 4, 6], claims, parts, 0, [(0, 1), (0, 1, 2)])
        # (2,) and (0, 2) are spent as well, but this claim may be paid out of fund 1 too.
        self.judge([4, 5, 6], claims, parts, 0, [])

    def test_heaps_with_something_left(self):
        claims = [claim(9, (0,)), claim(9, (1,))]
        self.judge([3, 4], claims, row(3, 4), 0, [(0,)])
        self.judge([3, 4], claims, row(3, 4), 1, [(1,), (0, 1)])
        self.judge([4, 4], claims, row(3, 4), 0, [])
        self.judge([3, 5], claims, row(3, 4), 1, [])
        self.judge([3, 5], claims, row(3, 4), 0, [(0,)])
        self.judge([LONG + 1], [claim(LONG * 2, (0,))], row(LONG), 0, [])

    def test_rows_that_cannot_be_paid(self):
        claims = [claim(9, (0,)), claim(9, (1,)), claim(9, (0, 1), 1)]
        self.judge([3, 4], claims, row(4, 4, 0), 0, [])
        self.judge([3, 4], claims, row(4, 4, 0), 1, [(1,)])
        # More than the worth of the heap is not just its worth.
        self.judge([3, 4], claims, row(4, 4, 0), 2, [])
        self.judge([3, 5], claims, row(4, 4, 0), 2, [(0, 1)])
        self.judge([3, 5], claims, row(4, 3, 1), 2, [(0, 1)])
        self.judge([3, 5], claims, row(9, 9, 8), 2, [])

    def test_claims_of_the_same_rank(self):
        # Fills of a quarter, a quarter, a half and an eighth.
        claims = [claim(8, (0,)), claim(4, (0,)), claim(8, (0,)), claim(8, (0,))]
        parts = row(2, 1, 4, 1)
        for worth, good in [(8, [2]), (4, [0, 1]), (1, [3]), (2, []), (3, []), (7, []), (5, [])]:
            for place in range(4):
                self.judge([worth], claims, parts, place, [(0,)] if place in good else [])

    def test_a_fill_a_little_greater_does_not_count(self):
        least = Fraction(1, LONG)
        claims = [claim(2, (0,)), claim(2, (0,))]
        self.judge([2], claims, row(1, 1), 0, [(0,)])
        self.judge([2], claims, row(1 - least, 1 + least), 0, [])
        self.judge([2], claims, row(1 - least, 1 + least), 1, [(0,)])

    def test_a_due_of_nought_has_the_fill_1(self):
        claims = [claim(8, (0,)), claim(0, (0,)), claim(0, (0,), -1)]
        self.judge([2], claims, row(2, 0, 0), 0, [(0,)])

    def test_fills_and_not_parts_are_asked(self):
        # The other one is paid more than this one, but its fill is less; and the other way round.
        self.judge([7], [claim(4, (0,)), claim(100, (0,))], row(2, 5), 0, [(0,)])
        self.judge([7], [claim(100, (0,)), claim(4, (0,))], row(5, 2), 0, [])
        self.judge([5], [claim(100, (0,)), claim(4, (0,))], row(5, 2), 0, [(0,)])

    def test_claims_of_a_lesser_rank_count_whatever_their_fill(self):
        claims = [claim(8, (0,), 1), claim(8, (0,), 0), claim(8, (0,), -3)]
        self.judge([12], claims, row(1, 8, 3), 0, [(0,)])
        self.judge([12], claims, row(3, 8, 1), 0, [(0,)])
        self.judge([9], claims, row(1, 7, 2), 1, [(0,)])
        self.judge([10], claims, row(1, 7, 2), 1, [])

    def test_claims_of_a_later_rank_within_the_heap_do_not_count(self):
        claims = [claim(8, (0,), 1), claim(8, (0,), 2), claim(8, (0, 1), 5)]
        self.judge([5, 0], claims, row(3, 2, 0), 0, [])
        self.judge([5, 0], claims, row(5, 2, 1), 0, [(0,), (0, 1)])
        self.judge([7, 0], claims, row(5, 2, 1), 1, [(0,), (0, 1)])
        self.judge([7, 1], claims, row(5, 2, 1), 2, [(0, 1)])

    def test_the_empty_heap(self):
        self.judge([], [claim(8, ())], row(0), 0, [()])
        self.judge([3, 0], [claim(8, ())], row(0), 0, [(), (1,)])
        self.judge([3], [claim(8, ())], row(1), 0, [])
        self.judge([3], [claim(8, ()), claim(2, (), -1)], row(0, 1), 0, [])
        self.judge([3], [claim(8, ()), claim(2, (), 1)], row(0, 1), 0, [()])
        self.judge([0], [claim(8, (0,))], row(0), 0, [(0,)])

    def test_tuples_that_are_no_heap(self):
        claims = [claim(9, (0,)), claim(9, (0, 1)), claim(9, ())]
        parts = row(3, 4, 0)
        for place, heap in [(0, (0,)), (1, (0, 1)), (2, ())]:
            self.assertIs(good_paper([3, 4, 0], claims, parts, place, heap), True)
        for place in range(3):
            for heap in [(0, 0), (1, 0), (0, 1, 1), (2, 1, 0), (0, 2, 1), (-1,), (-1, 0), (-3,), (0, -3), (3,), (0, 3),
                         (0, 1, 3), (6,), (0, 1, 2, 3, 4, 5, 6), (LONG,), (-LONG, 0), (0, 1, 0, 1), (2, 2)]:
                self.assertIs(good_paper([3, 4, 0], claims, parts, place, heap), False, heap)

    def test_all_heaps_and_rows(self):
        chance = Random(101)
        for worths, claims in some_cases(102, 60, top=6, unders=(1, 2), ranks=(0, 1), most=4, claims=6):
            rows = list(any_rows(chance, claims, 3)) + list(some_rows(chance, worths, claims, 3))
            for parts, place in product(rows, range(len(claims))):
                self.judge(worths, claims, parts, place, own_papers(worths, claims, parts, place))


class Paper(SoonCase):
    def assertPaper(self, worths, claims, parts, place):
        told = paper(worths, claims, parts, place)
        good = own_papers(worths, claims, parts, place)
        if good:
            self.assertIs(type(told), tuple)
            self.assertIn(told, good)
            self.assertIs(good_paper(worths, claims, parts, place, told), True)
        else:
            self.assertIsNone(told)
        return bool(good)

    def test_plain_ones(self):
        parts = shared(WORTHS, CLAIMS)
        self.assertEqual([paper(WORTHS, CLAIMS, parts, place) for place in range(4)], [(0,), (0, 1), None, ()])

    def test_none_where_something_is_left(self):
        self.assertIsNone(paper([3], [claim(4, (0,))], row(2), 0))
        self.assertIsNone(paper([], [claim(4, ())], row(1), 0))
        self.assertEqual(paper([2], [claim(4, (0,))], row(2), 0), (0,))

    def test_any_rows(self):
        chance = Random(103)
        met = []
        for worths, claims in some_cases(104, 150, top=9):
            for parts in list(any_rows(chance, claims, 2)) + list(some_rows(chance, worths, claims, 1)):
                met += [self.assertPaper(worths, claims, parts, place) for place in range(len(claims))]
        self.assertEqual(sorted(set(met)), [False, True])

    def test_sharings_out(self):
        for worths, claims in some_cases(105, 100):
            parts = shared(worths, claims)
            for place, (due, touched, rank) in enumerate(claims):
                self.assertIs(self.assertPaper(worths, claims, parts, place), parts[place] != due)

    def test_very_large_numbers_end_soon(self):
        claims = [claim(Fraction(10 ** 300 + place, 10 ** 200 + prime), (place % 5, place % 5 + 1), place % 2)
                  for place, prime in enumerate(PRIMES)]
        parts = shared([10 ** 100 // 3] * 6, claims)
        for place, (due, touched, rank) in enumerate(claims):
            self.assertIs(self.assertPaper([10 ** 100 // 3] * 6, claims, parts, place), parts[place] != due)
        self.assertIs(is_sharing([10 ** 100 // 3] * 6, claims, parts), True)

    def test_somewhat_beyond_the_bounds(self):
        claims = [claim(3, (fund, fund + 1), fund % 2) for fund in range(6)] * 3
        parts = shared([1, 2, 3, 4, 5, 6, 0], claims)
        for place in range(len(claims)):
            self.assertPaper([1, 2, 3, 4, 5, 6, 0], claims, parts, place)


class IsSharing(SoonCase):
    def test_plain_ones(self):
        self.assertIs(is_sharing([], [], []), True)
        self.assertIs(is_sharing([5], [], []), True)
        self.assertIs(is_sharing(WORTHS, CLAIMS, row(2, 4, 8, 0)), True)
        self.assertIs(is_sharing([6], [claim(4, (0,)), claim(8, (0,))], row(2, 4)), True)
        self.assertIs(is_sharing([0], [claim(0, (0,)), claim(0, ())], row(0, 0)), True)

    def test_what_shared_tells(self):
        for worths, claims in some_cases(111, 200):
            self.assertIs(is_sharing(worths, claims, shared(worths, claims)), True)

    def test_claims_of_one_rank_paid_unlike(self):
        claims = [claim(4, (0,)), claim(8, (0,))]
        for parts in [row(3, 3), row(4, 2), row(1, 5), row(0, 6), row(Fraction(5, 2), Fraction(7, 2))]:
            self.assertIs(is_sharing([6], claims, parts), False)

    def test_a_claim_behind_paid_ahead_of_another(self):
        claims = [claim(4, (0,), 0), claim(8, (0,), 1)]
        self.assertIs(is_sharing([6], claims, row(4, 2)), True)
        for parts in [row(2, 4), row(3, 3), row(0, 6)]:
            self.assertIs(is_sharing([6], claims, parts), False)

    def test_rows_that_cannot_be_paid(self):
        claims = [claim(4, (0,), 0), claim(8, (0,), 1)]
        # All are paid their dues, so none needs a paper.
        self.assertIs(is_sharing([6], claims, row(4, 8)), False)
        self.assertIs(is_sharing([12], claims, row(4, 8)), True)
        # The one that falls short has a paper.
        claims = [claim(4, (0,), 0), claim(8, (1,), 0), claim(9, (1,), 1)]
        self.assertIs(is_sharing([3, 7], claims, row(4, 7, 0)), False)
        self.assertIs(is_sharing([4, 7], claims, row(4, 7, 0)), True)
        self.assertIs(is_sharing([], [claim(1, ())], row(1)), False)

    def test_rows_that_leave_something(self):
        self.assertIs(is_sharing([6], [claim(4, (0,)), claim(8, (0,))], row(0, 0)), False)
        self.assertIs(is_sharing([12], [claim(4, (0,)), claim(8, (0,))], row(4, 7)), False)
        self.assertIs(is_sharing([6], [claim(9, (0,))], row(6 - Fraction(1, LONG))), False)

    def test_rows_bent_a_little(self):
        for worths, claims in some_cases(112, 60, claims=6):
            parts = own_shared(worths, claims)
            for other in bent_rows(claims, parts):
                self.assertIs(is_sharing(worths, claims, other), other == parts, (worths, claims, other))

    def test_any_rows(self):
        chance = Random(113)
        for worths, claims in some_cases(114, 80, top=5, most=3, claims=4, unders=(1,)):
            parts = own_shared(worths, claims)
            for other in list(any_rows(chance, claims, 6)) + list(some_rows(chance, worths, claims, 3)):
                self.assertIs(is_sharing(worths, claims, other), other == parts, (worths, claims, other))

    def test_all_rows_of_a_grid(self):
        for touched in product([(0,), (1,), (0, 1), ()], repeat=3):
            for ranks in [(0, 0, 0), (0, 0, 1), (1, 0, 0), (0, 1, 2)]:
                claims = [claim(2, heap, rank) for heap, rank in zip(touched, ranks)]
                parts = own_shared([2, 1], claims)
                for other in product(row(0, Fraction(1, 2), 1, 2), repeat=3):
                    self.assertIs(is_sharing([2, 1], claims, list(other)), list(other) == parts)

    def test_worths_that_became_less(self):
        self.assertIs(is_sharing([1, 4, 100], CLAIMS, row(2, 4, 8, 0)), False)
        self.assertIs(is_sharing([2, 3, 100], CLAIMS, row(2, 4, 8, 0)), False)
        self.assertIs(is_sharing([2, 4, 99], CLAIMS, row(2, 4, 8, 0)), True)
        for worths, claims in some_cases(115, 60):
            parts = shared(worths, claims)
            for fund in [fund for fund, worth in enumerate(worths) if worth > 0]:
                lesser = worths[:fund] + [worths[fund] - 1] + worths[fund + 1:]
                self.assertIs(is_sharing(lesser, claims, parts), own_shared(lesser, claims) == parts)
                if overdrawn_heaps(lesser, claims, parts):
                    self.assertIs(is_sharing(lesser, claims, parts), False)

    def test_a_part_above_the_due(self):
        self.assertIs(is_sharing([9], [claim(4, (0,))], row(5)), False)

    def test_claims_of_six_funds(self):
        chance = Random(116)
        for ranks in [(0,), (0, 1), range(16)]:
            claims = some_claims(chance, 6, 16, 40, (1, 2, 5), ranks)
            worths = [chance.randint(0, 60) for fund in range(6)]
            self.assertIs(is_sharing(worths, claims, shared(worths, claims)), True)
            self.assertIs(is_sharing(worths, claims, row(*[0] * 16)), False)


class Kept(SoonCase):
    def test_what_is_handed_in_stays_as_it_was(self):
        handed = deepcopy((WORTHS, CLAIMS, row(2, 4, 8, 0)))
        for place in range(4):
            paper(*handed, place)
            for heap in subsets(3):
                good_paper(*handed, place, heap)
        is_sharing(*handed)
        is_sharing(handed[0], handed[1], handed[2][::-1])
        self.assertEqual(handed, (WORTHS, CLAIMS, row(2, 4, 8, 0)))

    def test_what_was_handed_in_can_be_changed_afterwards(self):
        worths, claims, parts = deepcopy((WORTHS, CLAIMS, row(2, 4, 8, 0)))
        self.assertEqual(paper(worths, claims, parts, 1), (0, 1))
        worths[0], claims[1], parts[1] = 50, claim(1, (2,)), (0, 1)
        self.assertEqual(paper(WORTHS, CLAIMS, row(2, 4, 8, 0), 1), (0, 1))
        self.assertIsNone(paper(worths, claims, parts, 1))


if __name__ == "__main__":
    unittest.main()
