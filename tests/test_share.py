import unittest
from copy import deepcopy
from fractions import Fraction
from itertools import permutations, product
from random import Random

from cases import (
    LONG, PRIMES, SoonCase, claim, fill_of, overdrawn_heaps, own_papers, own_shared, part_of, row, some_cases,
    some_claims, some_rows, table_faults, value_of,
)
from keelbond.share import shared
from keelbond.table import good_table, table
from keelbond.touch import overdrawn


class OneFund(SoonCase):
    def test_one_claim(self):
        for worth, due, part in [(5, 3, 3), (5, 5, 5), (5, 8, 5), (0, 8, 0), (5, 0, 0), (0, 0, 0),
                                 (5, Fraction(7, 3), Fraction(7, 3)), (5, Fraction(16, 3), 5), (LONG, LONG + 1, LONG)]:
            self.assertEqual(shared([worth], [claim(due, (0,))]), row(part))

    def test_one_rank_with_dues_above_the_worth(self):
        self.assertEqual(shared([6], [claim(4, (0,)), claim(8, (0,))]), row(2, 4))
        self.assertEqual(shared([5], [claim(1, (0,)), claim(1, (0,)), claim(5, (0,))]),
                         row(Fraction(5, 7), Fraction(5, 7), Fraction(25, 7)))
        self.assertEqual(shared([0], [claim(4, (0,)), claim(8, (0,))]), row(0, 0))

    def test_one_rank_with_dues_up_to_the_worth(self):
        self.assertEqual(shared([12], [claim(4, (0,)), claim(8, (0,))]), row(4, 8))
        self.assertEqual(shared([13], [claim(4, (0,)), claim(8, (0,))]), row(4, 8))
        self.assertEqual(shared([LONG], [claim(Fraction(4, 3), (0,)), claim(8, (0,))]), row(Fraction(4, 3), 8))

    def test_dues_of_nought(self):
        self.assertEqual(shared([6], [claim(0, (0,)), claim(4, (0,)), claim(8, (0,))]), row(0, 2, 4))
        self.assertEqual(shared([0], [claim(0, (0,)), claim(4, (0,))]), row(0, 0))
        self.assertEqual(shared([6], [claim(0, (0,), 3), claim(9, (0,), 5), claim(0, (0,), 9)]), row(0, 6, 0))
        self.assertEqual(shared([6], [claim(0, (0,))] * 3), row(0, 0, 0))

    def test_several_ranks(self):
        claims = [claim(4, (0,), 2), claim(3, (0,), 0), claim(8, (0,), 2), claim(5, (0,), 1), claim(1, (0,), 3)]
        for worth, parts in [(0, (0, 0, 0, 0, 0)), (2, (0, 2, 0, 0, 0)), (3, (0, 3, 0, 0, 0)), (7, (0, 3, 0, 4, 0)),
                             (8, (0, 3, 0, 5, 0)), (14, (2, 3, 4, 5, 0)), (20, (4, 3, 8, 5, 0)),
                             (21, (4, 3, 8, 5, 1)), (99, (4, 3, 8, 5, 1))]:
            self.assertEqual(shared([worth], claims), row(*parts))

    def test_ranks_of_either_sign_and_with_gaps(self):
        for ranks in [(0, 1, 2), (-1, 0, 1), (-9, -5, -1), (-LONG, 7, LONG), (10, 20, 1000), (0, LONG, LONG + 1)]:
            for order in permutations(range(3)):
                claims = [claim(4, (0,), ranks[at]) for at in order]
                parts = [[4, 3, 0][at] for at in order]
                self.assertEqual(shared([7], claims), row(*parts))


class SeveralFunds(SoonCase):
    def test_funds_apart_from_one_another(self):
        claims = [claim(4, (0,)), claim(4, (1,)), claim(4, (2,)), claim(2, (0,))]
        self.assertEqual(shared([3, 5, 0], claims), row(2, 4, 0, 1))

    def test_a_claim_gets_out_of_one_fund_what_another_has_not(self):
        claims = [claim(10, (0, 1)), claim(4, (0,))]
        self.assertEqual(shared([4, 10], claims), row(10, 4))
        self.assertEqual(shared([4, 8], claims), row(Fraction(60, 7), Fraction(24, 7)))
        self.assertEqual(shared([3, 10], claims), row(10, 3))

    def test_one_of_a_rank_stops_and_the_others_are_raised_on(self):
        self.assertEqual(shared([2, 20], [claim(8, (0,)), claim(8, (1,))]), row(2, 8))
        self.assertEqual(shared([2, 4, 6], [claim(9, (0,)), claim(9, (0, 1)), claim(9, (0, 1, 2))]), row(2, 4, 6))
        self.assertEqual(shared([6, 4, 2], [claim(9, (0,)), claim(9, (0, 1)), claim(9, (0, 1, 2))]), row(4, 4, 4))

    def test_whoever_is_ahead_takes_what_those_behind_could_have(self):
        claims = [claim(6, (0, 1), 0), claim(6, (0,), 1), claim(6, (1,), 1)]
        self.assertEqual(shared([6, 6], claims), row(6, 3, 3))
        self.assertEqual(shared([9, 3], claims), row(6, 3, 3))
        self.assertEqual(shared([10, 2], claims), row(6, 4, 2))
        self.assertEqual(shared([3, 3], claims), row(6, 0, 0))

    def test_whoever_is_ahead_is_paid_out_of_funds_that_others_do_not_touch(self):
        claims = [claim(6, (0, 1), 0), claim(6, (0,), 1)]
        self.assertEqual(shared([6, 6], claims), row(6, 6))
        self.assertEqual(shared([6, 4], claims), row(6, 4))

    def test_claims_behind_count_as_paid_nothing(self):
        claims = [claim(5, (0,), 1), claim(9, (0, 1), 0), claim(5, (1,), 2)]
        self.assertEqual(shared([5, 5], claims), row(1, 9, 0))
        self.assertEqual(shared([5, 6], claims), row(2, 9, 0))
        self.assertEqual(shared([5, 10], claims), row(5, 9, 1))

    def test_claims_that_touch_nothing(self):
        self.assertEqual(shared([5], [claim(3, ())]), row(0))
        self.assertEqual(shared([5], [claim(3, ()), claim(3, (0,))]), row(0, 3))
        self.assertEqual(shared([5], [claim(3, (), -1), claim(9, (0,), 0)]), row(0, 5))
        self.assertEqual(shared([5], [claim(0, ()), claim(3, (0,))]), row(0, 3))
        self.assertEqual(shared([], [claim(3, ()), claim(0, ())]), row(0, 0))

    def test_no_funds_and_no_claims(self):
        self.assertEqual(shared([], []), [])
        self.assertEqual(shared([5, 0, 7], []), [])
        self.assertEqual(shared([], [claim(3, (), 1), claim(7, (), 0)]), row(0, 0))

    def test_exact_with_large_numbers(self):
        claims = [claim(LONG, (0, 1)), claim(LONG + 1, (0,)), claim(Fraction(LONG, 3), (1,), 1)]
        self.assertEqual(shared([LONG, LONG], claims), row(LONG, LONG, 0))
        shares = [Fraction(2 * LONG * due, 2 * LONG + 1) for due in [LONG, LONG + 1]]
        self.assertEqual(shared([2 * LONG, 0], claims), row(shares[0], shares[1], 0))

    def test_somewhat_beyond_the_bounds(self):
        claims = [claim(3, (fund, fund + 1), fund % 2) for fund in range(6)] * 3
        self.assertEqual(shared([1, 2, 3, 4, 5, 6, 7], claims), own_shared([1, 2, 3, 4, 5, 6, 7], claims))


class AllHeaps(SoonCase):
    def assertShared(self, worths, claims):
        """The row is that of the test's own reckoning, can be paid, and its table is good."""
        told = shared(worths, claims)
        self.assertIs(type(told), list)
        self.assertTrue(all(type(part) is tuple for part in told))
        self.assertEqual(told, own_shared(worths, claims))
        for (due, touched, rank), part in zip(claims, told):
            self.assertTrue(0 <= value_of(part) <= value_of(due))
        self.assertEqual(overdrawn_heaps(worths, claims, told), [])
        self.assertIsNone(overdrawn(worths, claims, told))
        rows = table(worths, claims, told)
        self.assertEqual(table_faults(worths, claims, told, rows), [])
        self.assertIs(good_table(worths, claims, told, rows), True)

    def test_cases_up_to_the_bounds(self):
        for worths, claims in some_cases(61, 250):
            self.assertShared(worths, claims)

    def test_one_rank_up_to_the_bounds(self):
        for worths, claims in some_cases(62, 150, ranks=(3,), top=9):
            self.assertShared(worths, claims)

    def test_six_funds_and_sixteen_claims(self):
        chance = Random(63)
        for ranks in [(0,), (0, 1), (-5, 0, 5), range(16)]:
            for turn in range(10):
                claims = some_claims(chance, 6, 16, 40, (1, 2, 5), ranks)
                self.assertShared([chance.randint(0, 60) for fund in range(6)], claims)

    def test_very_large_numbers_end_soon(self):
        chance = Random(64)
        for ranks in [(0,), (0, 1, 2)]:
            claims = some_claims(chance, 6, 16, 10 ** 60, PRIMES, ranks)
            self.assertShared([chance.randint(1, 10 ** 54) for fund in range(6)], claims)
        # Unders of two hundred figures each, all apart: too large to be judged over all heaps, so by its table alone.
        claims = [claim(Fraction(10 ** 300 + place, 10 ** 200 + prime), (place % 5, place % 5 + 1), place % 2)
                  for place, prime in enumerate(PRIMES)]
        told = shared([10 ** 100] * 6, claims)
        self.assertIs(good_table([10 ** 100] * 6, claims, told, table([10 ** 100] * 6, claims, told)), True)


class Order(SoonCase):
    def test_claims_in_another_order(self):
        chance = Random(71)
        for worths, claims in some_cases(72, 60):
            told = shared(worths, claims)
            order = chance.sample(range(len(claims)), len(claims))
            self.assertEqual(shared(worths, [claims[at] for at in order]), [told[at] for at in order])

    def test_funds_in_another_order(self):
        chance = Random(73)
        for worths, claims in some_cases(74, 60):
            order = chance.sample(range(len(worths)), len(worths))
            moved = [(due, tuple(sorted(order.index(fund) for fund in touched)), rank) for due, touched, rank in claims]
            self.assertEqual(shared([worths[at] for at in order], moved), shared(worths, claims))

    def test_like_ones_get_like_parts(self):
        for worths, claims in some_cases(75, 40, claims=8):
            told = shared(worths, claims + claims)
            self.assertEqual(told[:len(claims)], told[len(claims):])

    def test_ranks_in_other_numbers(self):
        for worths, claims in some_cases(76, 40, ranks=(0, 1, 2)):
            other = [(due, touched, [-LONG, 3, LONG][rank]) for due, touched, rank in claims]
            self.assertEqual(shared(worths, other), shared(worths, claims))

    def test_claims_behind_change_nothing_ahead(self):
        for worths, claims in some_cases(77, 60):
            told = shared(worths, claims)
            ahead = [at for at, (due, touched, rank) in enumerate(claims) if rank <= 0]
            self.assertEqual(shared(worths, [claims[at] for at in ahead]), [told[at] for at in ahead])


class Papers(SoonCase):
    def assertPapers(self, worths, claims):
        told = shared(worths, claims)
        for place, (due, touched, rank) in enumerate(claims):
            if told[place] != due:
                self.assertNotEqual(own_papers(worths, claims, told, place), [])

    def test_plain_ones(self):
        claims = [claim(9, (0,)), claim(9, (0, 1)), claim(9, (1, 2)), claim(9, (), 5)]
        told = shared([2, 4, 100], claims)
        self.assertEqual([own_papers([2, 4, 100], claims, told, place) for place in [0, 1]], [[(0,)], [(0, 1)]])
        self.assertEqual(told[2], (9, 1))
        self.assertIn((), own_papers([2, 4, 100], claims, told, 3))
        self.assertPapers([2, 4, 100], claims)

    def test_for_each_claim_paid_less_than_its_due_there_is_a_heap(self):
        for worths, claims in some_cases(81, 250):
            self.assertPapers(worths, claims)

    def test_where_little_is_there(self):
        for worths, claims in some_cases(82, 100, ranks=(0, 1)):
            self.assertPapers([worth // 4 for worth in worths], claims)


class NoBetterRow(SoonCase):
    def assertNoBetter(self, claims, told, other):
        """What [7] says of a row that can be paid beside the sharing out."""
        for place, (due, touched, rank) in enumerate(claims):
            keeps = all(value_of(other[at]) >= value_of(told[at]) for at, found in enumerate(claims) if found[2] < rank)
            if keeps and value_of(other[place]) > value_of(told[place]):
                fill = fill_of(due, told[place])
                losers = [at for at, found in enumerate(claims)
                          if found[2] == rank and value_of(other[at]) < value_of(told[at])
                          and fill_of(found[0], told[at]) <= fill]
                self.assertNotEqual(losers, [], (claims, told, other, place))

    def test_all_rows_of_a_grid(self):
        for touched in product([(0,), (1,), (0, 1), ()], repeat=3):
            for ranks in [(0, 0, 0), (0, 0, 1), (1, 0, 0), (0, 1, 2)]:
                for worths in [[2, 1], [1, 3]]:
                    claims = [claim(2, heap, rank) for heap, rank in zip(touched, ranks)]
                    self.assertGrid(worths, claims)

    def assertGrid(self, worths, claims):
        told = shared(worths, claims)
        for other in product(row(0, Fraction(1, 2), 1, 2), repeat=len(claims)):
            if not overdrawn_heaps(worths, claims, other):
                self.assertNoBetter(claims, told, other)

    def test_other_rows_that_can_be_paid(self):
        chance = Random(91)
        for worths, claims in some_cases(92, 80, most=4, claims=7, ranks=(0, 1)):
            told = shared(worths, claims)
            for other in some_rows(chance, worths, claims, 6):
                self.assertNoBetter(claims, told, other)

    def test_rows_a_little_beside_the_sharing_out(self):
        small = Fraction(1, 10 ** 6)
        for worths, claims in some_cases(93, 60, most=3, claims=4, ranks=(0, 1)):
            told = shared(worths, claims)
            for steps in product([-small, 0, small], repeat=len(claims)):
                other = [value_of(part) + step for part, step in zip(told, steps)]
                fits = all(0 <= paid <= value_of(found[0]) for paid, found in zip(other, claims))
                beside = [part_of(paid) for paid in other]
                if fits and not overdrawn_heaps(worths, claims, beside):
                    self.assertNoBetter(claims, told, beside)


class Kept(SoonCase):
    WORTHS = [2, 4, 100]
    CLAIMS = [claim(8, (0,)), claim(8, (0, 1)), claim(0, (2,), 1), claim(5, (1, 2), -1), claim(1, ())]

    def test_what_is_handed_in_stays_as_it_was(self):
        handed = deepcopy((self.WORTHS, self.CLAIMS))
        shared(*handed)
        self.assertEqual(handed, (self.WORTHS, self.CLAIMS))

    def test_the_row_told_is_a_new_list_each_time(self):
        for worths, claims in [(self.WORTHS, self.CLAIMS), ([], []), ([3], [claim(0, (0,))])]:
            first = shared(worths, claims)
            whole = list(first)
            first.append("mine")
            first[0] = "mine"
            self.assertEqual(shared(worths, claims), whole)

    def test_what_was_handed_in_can_be_changed_afterwards(self):
        worths, claims = deepcopy((self.WORTHS, self.CLAIMS))
        told = shared(worths, claims)
        whole = list(told)
        worths[0] = 0
        claims.clear()
        self.assertEqual(told, whole)
        self.assertEqual(shared(self.WORTHS, self.CLAIMS), whole)


if __name__ == "__main__":
    unittest.main()
