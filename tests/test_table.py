import unittest
from copy import deepcopy
from fractions import Fraction
from itertools import permutations, product
from random import Random

from cases import (
    LONG, PRIMES, SoonCase, overdrawn_heaps, own_load, part_of, some_cases, some_claims, some_rows, table_faults,
    value_of, worth_of,
)
from keelbond.errors import KeelError, Overdrawn
from keelbond.share import shared
from keelbond.table import good_table, table

NOUGHT = (0, 1)

WORTHS = [10, 4, 3]
CLAIMS = [
    ((12, 1), (0, 1), 0),
    ((3, 2), (0, 2), 1),
    ((5, 1), (2,), 1),
    ((7, 1), (), 0),
    ((0, 1), (0, 1, 2), 3),
]
PARTS = [(12, 1), (1, 2), (5, 2), NOUGHT, NOUGHT]
ROWS = [
    [(9, 1), (3, 1), NOUGHT],
    [(1, 3), NOUGHT, (1, 6)],
    [NOUGHT, NOUGHT, (5, 2)],
    [NOUGHT, NOUGHT, NOUGHT],
    [NOUGHT, NOUGHT, NOUGHT],
]


def changed(rows, changes):
    """A copy of a table with other parts at some of its places (claim, fund)."""
    made = deepcopy(rows)
    for (place, fund), part in changes.items():
        made[place][fund] = part
    return made


class GoodTable(SoonCase):
    def judge(self, expected, rows, worths=None, claims=None, parts=None):
        worths = WORTHS if worths is None else worths
        claims = CLAIMS if claims is None else claims
        parts = PARTS if parts is None else parts
        self.assertIs(good_table(worths, claims, parts, rows), expected)
        self.assertEqual(table_faults(worths, claims, parts, rows) == [], expected)

    def test_one_that_is_a_table(self):
        self.judge(True, ROWS)

    def test_another_one_of_the_same_row(self):
        self.judge(True, changed(ROWS, {(0, 0): (8, 1), (0, 1): (4, 1)}))
        self.judge(True, changed(ROWS, {(1, 0): (1, 2), (1, 2): NOUGHT}))
        self.judge(True, changed(ROWS, {(1, 0): NOUGHT, (1, 2): (1, 2)}))

    def test_a_part_less_or_more(self):
        for place, fund, part in [(0, 0, (8, 1)), (0, 1, NOUGHT), (1, 0, (1, 4)), (2, 2, (7, 3)), (2, 2, NOUGHT),
                                  (0, 0, (19, 2)), (1, 2, (1, 5)), (4, 0, (1, 9))]:
            self.judge(False, changed(ROWS, {(place, fund): part}))

    def test_a_part_moved_to_a_fund_that_is_touched(self):
        # The claim's own sum stays; the fund is overdrawn by a little, or just spent.
        self.judge(True, changed(ROWS, {(0, 0): (29, 3), (0, 1): (7, 3)}))
        self.judge(False, changed(ROWS, {(0, 0): (39, 4), (0, 1): (9, 4)}))
        self.judge(False, changed(ROWS, {(0, 0): (12, 1), (0, 1): NOUGHT}))
        self.judge(False, changed(ROWS, {(0, 0): (7, 1), (0, 1): (5, 1)}))

    def test_a_part_moved_to_a_fund_that_is_not_touched(self):
        self.judge(False, changed(ROWS, {(1, 0): NOUGHT, (1, 1): (1, 3)}))
        self.judge(False, changed(ROWS, {(2, 2): (2, 1), (2, 1): (1, 2)}))
        self.judge(False, changed(ROWS, {(0, 1): (5, 2), (0, 2): (1, 2)}), worths=[20, 20, 20])

    def test_parts_at_untouched_funds_that_come_to_nothing(self):
        self.judge(False, changed(ROWS, {(3, 0): (1, 2), (3, 1): (-1, 2)}), worths=[20, 20, 20])
        self.judge(False, changed(ROWS, {(2, 0): (-1, 2), (2, 1): (1, 2)}), worths=[20, 20, 20])

    def test_a_part_below_nought(self):
        self.judge(False, changed(ROWS, {(1, 0): (1, 1), (1, 2): (-1, 2)}), worths=[20, 20, 20])
        self.judge(False, changed(ROWS, {(4, 0): (-1, 1), (4, 1): (1, 1)}))
        self.judge(False, changed(ROWS, {(0, 0): (25, 2), (0, 1): (-1, 2)}), worths=[20, 20, 20])
        self.judge(False, [[(-1, 1)]], worths=[5], claims=[((3, 1), (0,), 0)], parts=[(1, 1)])

    def test_a_row_left_out(self):
        for place in range(len(ROWS)):
            self.judge(False, ROWS[:place] + ROWS[place + 1:])
        self.judge(False, [])

    def test_a_row_put_in(self):
        for place in range(len(ROWS) + 1):
            self.judge(False, ROWS[:place] + [[NOUGHT] * 3] + ROWS[place:])
            self.judge(False, ROWS[:place] + [[]] + ROWS[place:])

    def test_a_row_twice(self):
        for place in range(len(ROWS)):
            self.judge(False, ROWS[:place] + [ROWS[place]] + ROWS[place:])

    def test_rows_changed_about(self):
        for order in permutations(range(4)):
            rows = [ROWS[place] for place in order] + ROWS[4:]
            self.judge(order == (0, 1, 2, 3), rows)

    def test_a_place_of_a_row_left_out(self):
        for place, row in enumerate(ROWS):
            for fund in range(3):
                self.judge(False, ROWS[:place] + [row[:fund] + row[fund + 1:]] + ROWS[place + 1:])
            self.judge(False, ROWS[:place] + [[]] + ROWS[place + 1:])

    def test_a_place_of_a_row_put_in(self):
        for place, row in enumerate(ROWS):
            for fund in range(4):
                self.judge(False, ROWS[:place] + [row[:fund] + [NOUGHT] + row[fund:]] + ROWS[place + 1:])

    def test_a_worth_lessened(self):
        self.judge(False, ROWS, worths=[9, 4, 3])
        self.judge(False, ROWS, worths=[10, 2, 3])
        self.judge(False, ROWS, worths=[10, 4, 2])
        self.judge(True, ROWS, worths=[10, 3, 3])
        self.judge(False, ROWS, worths=[0, 0, 0])

    def test_a_fund_that_is_just_spent(self):
        claims = [((2, 1), (0,), 0), ((2, 1), (0,), 0)]
        for paid, good in [((2, 3), True), ((3, 4), False)]:
            parts = [(4, 3), paid]
            self.judge(good, [[part] for part in parts], worths=[2], claims=claims, parts=parts)

    def test_a_part_of_the_row_of_parts_less_or_more(self):
        for place, part in [(0, (11, 1)), (1, (1, 3)), (2, (2, 1)), (2, NOUGHT), (1, (3, 2)), (4, NOUGHT)]:
            parts = PARTS[:place] + [part] + PARTS[place + 1:]
            self.judge(parts == PARTS, ROWS, parts=parts)

    def test_a_fund_put_in_or_left_out(self):
        self.judge(False, ROWS, worths=WORTHS + [0])
        self.judge(False, ROWS, worths=WORTHS[:2])
        self.judge(True, [row + [NOUGHT] for row in ROWS], worths=WORTHS + [0])

    def test_no_claims_and_no_funds(self):
        for worths, claims, rows, good in [
            ([], [], [], True), ([], [], [[]], False), ([5, 0], [], [], True), ([5, 0], [], [[NOUGHT, NOUGHT]], False),
            ([], [((3, 1), (), 0)], [[]], True), ([], [((3, 1), (), 0)], [], False),
            ([], [((3, 1), (), 0)], [[NOUGHT]], False), ([5], [((3, 1), (), 0)], [[NOUGHT]], True),
            ([5], [((3, 1), (), 0)], [[]], False),
        ]:
            self.judge(good, rows, worths=worths, claims=claims, parts=[NOUGHT] * len(claims))
        self.judge(False, [[]], worths=[], claims=[((3, 1), (), 0)], parts=[(1, 1)])

    def test_tables_with_one_part_changed(self):
        chance = Random(5)
        for worths, claims in some_cases(11, 60, most=4, claims=6):
            for parts in some_rows(chance, worths, claims, 1):
                rows = table(worths, claims, parts)
                self.judge(True, rows, worths, claims, parts)
                for place, fund in product(range(len(claims)), range(len(worths))):
                    for added in [Fraction(1, 5), Fraction(-1, 5)]:
                        part = part_of(value_of(rows[place][fund]) + added)
                        self.judge(False, changed(rows, {(place, fund): part}), worths, claims, parts)

    def test_large_numbers(self):
        claims = [((LONG, 3), (0,), 0), ((LONG, 1), (0,), 0)]
        parts = [part_of(Fraction(LONG, 3)), part_of(Fraction(2 * LONG, 3) - Fraction(1, LONG))]
        rows = [[part] for part in parts]
        self.judge(True, rows, worths=[LONG], claims=claims, parts=parts)
        self.judge(False, rows, worths=[LONG - 1], claims=claims, parts=parts)

    def test_what_is_handed_in_stays_as_it_was(self):
        handed = deepcopy((WORTHS, CLAIMS, PARTS, ROWS))
        good_table(*handed)
        self.assertEqual(handed, (WORTHS, CLAIMS, PARTS, ROWS))
        bad = changed(ROWS, {(0, 0): (-1, 1)})
        handed = deepcopy((WORTHS, CLAIMS, PARTS, bad))
        good_table(*handed)
        self.assertEqual(handed, (WORTHS, CLAIMS, PARTS, bad))


class TableCase(SoonCase):
    def assertPaid(self, worths, claims, parts):
        """A table is told, and a walk over it finds nothing wrong."""
        rows = table(worths, claims, parts)
        self.assertIs(type(rows), list)
        for row in rows:
            self.assertIs(type(row), list)
            self.assertTrue(all(type(part) is tuple for part in row))
        self.assertEqual(table_faults(worths, claims, parts, rows), [])
        self.assertIs(good_table(worths, claims, parts, rows), True)
        return rows

    def assertOverdrawn(self, worths, claims, parts):
        """It is refused, with a heap whose load is above its worth."""
        with self.assertRaises(Overdrawn) as taken:
            table(worths, claims, parts)
        heap = taken.exception.heap
        self.assertIs(type(heap), tuple)
        self.assertEqual(heap, tuple(sorted(set(heap))))
        self.assertTrue(set(heap) <= set(range(len(worths))))
        self.assertGreater(own_load(claims, parts, heap), worth_of(worths, heap))
        return heap

    def assertJudged(self, worths, claims, parts):
        if overdrawn_heaps(worths, claims, parts):
            self.assertOverdrawn(worths, claims, parts)
        else:
            self.assertPaid(worths, claims, parts)


class Told(TableCase):
    def test_the_one_table_that_there_is(self):
        claims = [((5, 1), (0,), 0), ((7, 2), (1,), 1)]
        self.assertEqual(self.assertPaid([5, 4], claims, [(5, 1), (7, 2)]), [[(5, 1), NOUGHT], [NOUGHT, (7, 2)]])
        claims = [((4, 1), (0, 1), 0), ((5, 1), (0,), 0)]
        self.assertEqual(self.assertPaid([5, 4], claims, [(4, 1), (5, 1)]), [[NOUGHT, (4, 1)], [(5, 1), NOUGHT]])
        self.assertEqual(self.assertPaid([6, 3], claims, [(4, 1), (5, 1)]), [[(1, 1), (3, 1)], [(5, 1), NOUGHT]])

    def test_no_claims_no_funds_nothing_paid(self):
        self.assertEqual(self.assertPaid([], [], []), [])
        self.assertEqual(self.assertPaid([5, 0], [], []), [])
        self.assertEqual(self.assertPaid([], [((3, 1), (), 0)] * 2, [NOUGHT] * 2), [[], []])
        self.assertEqual(self.assertPaid([0, 7], [((3, 1), (), 0)], [NOUGHT]), [[NOUGHT, NOUGHT]])
        self.assertEqual(self.assertPaid(WORTHS, CLAIMS, [NOUGHT] * 5), [[NOUGHT] * 3] * 5)

    def test_rows_that_leave_something(self):
        self.assertPaid(WORTHS, CLAIMS, PARTS)
        self.assertPaid(WORTHS, CLAIMS, [(1, 3), (1, 7), (1, 11), NOUGHT, NOUGHT])
        self.assertPaid([LONG, LONG, LONG], CLAIMS, PARTS)

    def test_rows_that_leave_nothing(self):
        claims = CLAIMS[:2] + [((5, 1), (1, 2), 1)]
        self.assertPaid([10, 2, 3], claims, [(11, 1), (3, 2), (5, 2)])
        self.assertPaid([6, 6, 3], claims, [(12, 1), (3, 2), (3, 2)])
        self.assertPaid([1, 1, 1], claims, [(1, 1), (3, 2), (1, 2)])

    def test_rows_up_to_the_bounds(self):
        chance = Random(3)
        for worths, claims in some_cases(21, 150):
            for parts in some_rows(chance, worths, claims, 2):
                self.assertPaid(worths, claims, parts)

    def test_the_sharing_out_has_a_table(self):
        for worths, claims in some_cases(22, 150):
            self.assertPaid(worths, claims, shared(worths, claims))

    def test_a_part_above_a_due_is_not_asked(self):
        self.assertEqual(self.assertPaid([9], [((3, 1), (0,), 0)], [(4, 1)]), [[(4, 1)]])

    def test_somewhat_beyond_the_bounds(self):
        claims = [((2, 1), (fund, fund + 1), 0) for fund in range(7)] * 3
        self.assertPaid([6] * 8, claims, [(2, 1)] * 21)
        self.assertOverdrawn([5] * 8, claims, [(2, 1)] * 21)


class Refused(TableCase):
    def test_plain_ones(self):
        claims = [((5, 1), (0,), 0), ((9, 1), (0, 1), 0)]
        self.assertEqual(self.assertOverdrawn([4, 9], claims, [(5, 1), NOUGHT]), (0,))
        self.assertEqual(self.assertOverdrawn([5, 3], claims, [(5, 1), (4, 1)]), (0, 1))
        self.assertEqual(self.assertOverdrawn([0, 0], claims, [NOUGHT, (1, 9)]), (0, 1))
        self.assertPaid([5, 4], claims, [(5, 1), (4, 1)])

    def test_a_claim_that_touches_nothing_and_is_paid(self):
        for worths in [[], [5], [5, 5, 5]]:
            self.assertEqual(self.assertOverdrawn(worths, [((3, 1), (), 0)], [(1, LONG)]), ())

    def test_it_is_a_refusal_of_the_program(self):
        self.assertRaises(KeelError, table, [1], [((3, 1), (0,), 0)], [(2, 1)])

    def test_a_little_above_the_worth(self):
        claims = [((LONG, 1), (0, 1), 0), ((1, 1), (1, 2), 0), ((1, 1), (0, 2), 0)]
        worths = [LONG, 0, 1]
        self.assertPaid(worths, claims, [(LONG, 1), (1, 2), (1, 2)])
        self.assertOverdrawn(worths, claims, [(LONG, 1), (1, 2), part_of(Fraction(1, 2) + Fraction(1, LONG))])

    def test_a_heap_that_is_not_that_of_one_claim(self):
        claims = [((9, 1), (0, 1), 0), ((9, 1), (1, 2), 0), ((9, 1), (2, 3), 0), ((9, 1), (5,), 0)]
        self.assertPaid([2, 2, 2, 2, 50, 9], claims, [(3, 1), (2, 1), (3, 1), (9, 1)])
        heap = self.assertOverdrawn([2, 2, 2, 2, 50, 9], claims, [(3, 1), (3, 1), (3, 1), (9, 1)])
        self.assertEqual(heap, (0, 1, 2, 3))

    def test_just_where_a_heap_is_overdrawn(self):
        claims = [((4, 1), (0,), 0), ((4, 1), (0, 1), 0), ((4, 1), (1, 2), 1), ((4, 1), (0, 2), 1)]
        for worths in product([0, 1, 3], repeat=3):
            for parts in product([NOUGHT, (3, 2), (3, 1)], repeat=4):
                self.assertJudged(list(worths), claims, list(parts))

    def test_rows_that_leave_nothing_with_a_little_more(self):
        chance = Random(4)
        for worths, claims in some_cases(31, 60, claims=10):
            parts = shared(worths, claims)
            for place, claim in enumerate(claims):
                more = list(parts)
                more[place] = part_of(value_of(parts[place]) + Fraction(1, chance.choice([3, 10 ** 9])))
                self.assertJudged(worths, claims, more)

    def test_rows_of_any_kind(self):
        chance = Random(6)
        for worths, claims in some_cases(32, 200, top=12, claims=8):
            parts = [part_of(value_of(claim[0]) * Fraction(chance.randint(0, 4), 4)) for claim in claims]
            self.assertJudged(worths, claims, parts)


class Moved(TableCase):
    """Cases in which claims already paid have to be moved, whichever of their funds they were paid out of first."""

    def test_one_claim_is_moved(self):
        claims = [((4, 1), (0, 1), 0), ((4, 1), (0,), 0)]
        self.assertPaid([4, 4], claims, [(4, 1), (4, 1)])
        claims = [((4, 1), (0, 1), 0), ((4, 1), (1,), 0)]
        self.assertPaid([4, 4], claims, [(4, 1), (4, 1)])

    def test_a_chain_over_all_funds(self):
        for worth in [1, 7, LONG]:
            links = [((worth, 1), (fund, fund + 1), 0) for fund in range(5)]
            for order in permutations(links):
                for end in [0, 5]:
                    claims = list(order) + [((worth, 1), (end,), 0)]
                    self.assertPaid([worth] * 6, claims, [(worth, 1)] * 6)
                if worth == LONG:
                    break

    def test_a_chain_that_lacks_something_at_its_end(self):
        links = [((7, 1), (fund, fund + 1), 0) for fund in range(5)]
        for end in [0, 5]:
            claims = links + [((7, 1), (end,), 0)]
            for short in range(6):
                worths = [7] * short + [6] + [7] * (5 - short)
                self.assertOverdrawn(worths, claims, [(7, 1)] * 6)

    def test_several_chains_for_one_claim(self):
        # The last claim needs all of fund 0, and each of the others has a fund of its own to go to.
        claims = [((1, 1), (0, fund), 0) for fund in range(1, 6)] + [((5, 1), (0,), 0)]
        self.assertPaid([5, 1, 1, 1, 1, 1], claims, [(1, 1)] * 5 + [(5, 1)])
        self.assertOverdrawn([5, 1, 1, 1, 1, 0], claims, [(1, 1)] * 5 + [(5, 1)])
        thirds = [(1, 3)] * 5 + [(14, 3)]
        self.assertPaid([5, 1, 1, 1, 1, 0], claims, thirds)

    def test_a_claim_moved_in_pieces(self):
        claims = [((6, 1), (0, 1, 2, 3), 0), ((3, 1), (0,), 0), ((3, 1), (1,), 0)]
        for worths in [[6, 3, 2, 1], [3, 6, 1, 2], [3, 3, 5, 1], [5, 3, 3, 1]]:
            self.assertPaid(worths, claims, [(6, 1), (3, 1), (3, 1)])

    def test_forth_and_back(self):
        claims = [((2, 1), (0, 1), 0), ((2, 1), (1, 2), 0), ((2, 1), (0,), 0), ((2, 1), (2, 3), 0), ((2, 1), (2,), 0)]
        for order in permutations(claims):
            self.assertJudged([2, 2, 3, 3], list(order), [(2, 1)] * 5)
            self.assertJudged([2, 2, 4, 2], list(order), [(2, 1)] * 5)


class Soon(TableCase):
    def test_very_large_numbers(self):
        chance = Random(7)
        top = 10 ** 300
        for worths, claims in some_cases(41, 20, top=top):
            for parts in some_rows(chance, worths, claims, 1):
                self.assertPaid(worths, claims, parts)

    def test_fractions_with_large_unders(self):
        chance = Random(8)
        for turn in range(20):
            claims = some_claims(chance, 6, 16, 10 ** 9, PRIMES)
            parts = shared([10 ** 3] * 6, claims)
            self.assertPaid([10 ** 3] * 6, claims, parts)

    def test_unders_of_many_figures(self):
        unders = [10 ** 200 + prime for prime in PRIMES]
        claims = [((1, under), (place % 6, (place + 1) % 6) if place % 6 < 5 else (0, 5), 0)
                  for place, under in enumerate(unders)]
        self.assertPaid([1] * 6, claims, [claim[0] for claim in claims])
        self.assertPaid([1] * 6, claims, [part_of(Fraction(3, 10) + Fraction(1, under)) for under in unders])

    def test_one_that_moves_forth_and_back(self):
        # Longer chains ahead of shorter ones would move the two small claims forth and back, by 1 each time.
        great = 10 ** 60
        for touched, worths, paid in [
            ([(0, 1, 2), (1, 2), (1, 2)], [great, 1, great + 1], [1, 1, great]),
            ([(0, 1, 2), (0,), (0, 1, 2), (0, 1, 2)], [3 * great, 2 * great, great + 1],
             [3 * great + 1, great, great, great]),
        ]:
            for funds in permutations(range(3)):
                moved = [tuple(sorted(funds[fund] for fund in heap)) for heap in touched]
                there = [worths[funds.index(fund)] for fund in range(3)]
                for order in permutations(range(len(paid))):
                    claims = [((paid[at], 1), moved[at], 0) for at in order]
                    self.assertPaid(there, claims, [claim[0] for claim in claims])

    def test_great_and_small_side_by_side(self):
        # Between two great claims a small one could be pushed forth and back as often as the great ones are great.
        great = 10 ** 60
        for small in [1, Fraction(1, 10 ** 60)]:
            claims = [(part_of(small), (1, 2), 0), ((great, 1), (0, 1), 0), ((great, 1), (0, 2), 0),
                      ((great, 1), (1, 3), 0), ((great, 1), (2, 3), 0)]
            for order in permutations(claims):
                parts = [claim[0] for claim in order]
                self.assertPaid([great, great, great, great + 1], list(order), parts)
                self.assertOverdrawn([great, great, great, great - 1], list(order), parts)


class Kept(TableCase):
    def test_what_is_handed_in_stays_as_it_was(self):
        for worths in [WORTHS, [1, 1, 1]]:
            handed = deepcopy((worths, CLAIMS, PARTS))
            try:
                table(*handed)
            except Overdrawn:
                pass
            self.assertEqual(handed, (worths, CLAIMS, PARTS))

    def test_the_table_and_its_rows_are_new_each_time(self):
        for worths, claims, parts in [(WORTHS, CLAIMS, PARTS), ([3, 3], [((1, 1), (0,), 0)] * 3, [NOUGHT] * 3)]:
            first = table(worths, claims, parts)
            whole = deepcopy(first)
            for row in first:
                row[0] = (99, 1)
                row.append("mine")
            first.append("mine")
            self.assertEqual(table(worths, claims, parts), whole)

    def test_the_rows_are_apart_from_one_another(self):
        rows = table([3, 3], [((1, 1), (0,), 0)] * 3, [NOUGHT] * 3)
        rows[0][0] = (5, 1)
        rows[1].append("mine")
        self.assertEqual(rows, [[(5, 1), NOUGHT], [NOUGHT, NOUGHT, "mine"], [NOUGHT, NOUGHT]])

    def test_what_was_handed_in_can_be_changed_afterwards(self):
        worths, claims, parts = deepcopy((WORTHS, CLAIMS, PARTS))
        rows = table(worths, claims, parts)
        told = deepcopy(rows)
        worths[0], claims[0], parts[0] = 0, ((1, 1), (), 0), (1, 1)
        worths.clear()
        self.assertEqual(rows, told)


if __name__ == "__main__":
    unittest.main()
