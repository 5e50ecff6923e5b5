import unittest
from fractions import Fraction
from math import floor

from keelbond.errors import BadPart
from keelbond.parts import below, down, is_part, less, lowest, numbers_over, one_under, over, plus, times, total

# Two neighbours of forty figures have no common factor; LONG is the product of both.
LEFT = 1234567890123456789012345678901234567890
RIGHT = LEFT + 1
LONG = LEFT * RIGHT
# Python refuses to write a number of so many figures.
VAST = 10 ** 6000

NUMBERS = [0, 1, -1, 2, -2, 3, 6, -6, 7, -12, 30, 97, LEFT, -LEFT, RIGHT, -RIGHT, 6 * LEFT, LONG, -LONG]
UNDERS = [1, 2, 3, 4, 6, 12, 35, LEFT, RIGHT, 15 * RIGHT, LONG]


def part_of(value):
    return (value.numerator, value.denominator)


PARTS = sorted({part_of(Fraction(number, under)) for number in NUMBERS for under in UNDERS})


class PartCase(unittest.TestCase):
    def assertPart(self, answer, value):
        """The answer is the pair of whole numbers that writes this value in lowest terms."""
        self.assertIs(type(answer), tuple)
        self.assertEqual([type(number) for number in answer], [int, int])
        self.assertEqual(answer, part_of(value))


class Lowest(PartCase):
    def test_plain_ones(self):
        self.assertEqual(lowest(6, 4), (3, 2))
        self.assertEqual(lowest(-6, 4), (-3, 2))
        self.assertEqual(lowest(3, 2), (3, 2))
        self.assertEqual(lowest(-8, 4), (-2, 1))
        self.assertEqual(lowest(7, 1), (7, 1))

    def test_nought_is_over_one(self):
        for under in UNDERS + [VAST]:
            self.assertEqual(lowest(0, under), (0, 1))

    def test_long_numbers(self):
        self.assertEqual(lowest(LEFT, RIGHT), (LEFT, RIGHT))
        self.assertEqual(lowest(-LEFT, RIGHT), (-LEFT, RIGHT))
        self.assertEqual(lowest(LONG, 15 * RIGHT), part_of(Fraction(LEFT, 15)))
        self.assertEqual(lowest(-LONG, LONG), (-1, 1))
        self.assertEqual(lowest(-VAST, 2 * VAST), (-1, 2))
        self.assertEqual(lowest(VAST + 1, VAST), (VAST + 1, VAST))

    def test_all_numbers_over_all_unders(self):
        for number in NUMBERS:
            for under in UNDERS:
                self.assertPart(lowest(number, under), Fraction(number, under))

    def test_an_under_below_one_is_refused(self):
        for under in [0, -1, -2, -RIGHT, -VAST]:
            for number in NUMBERS + [VAST, -VAST]:
                self.assertRaises(BadPart, lowest, number, under)


class IsPart(PartCase):
    def test_what_is_so_written_is_a_part(self):
        for pair in [(0, 1), (1, 1), (-1, 1), (3, 2), (-3, 2), (LEFT, RIGHT), (-LEFT, RIGHT), (LONG, 1), (1, LONG)]:
            self.assertIs(is_part(pair), True)
        for pair in PARTS:
            self.assertIs(is_part(pair), True)

    def test_a_common_factor_is_no_part(self):
        for pair in [(2, 2), (6, 4), (-6, 4), (4, 2), (LONG, LEFT), (-LONG, 7 * RIGHT), (VAST, VAST)]:
            self.assertIs(is_part(pair), False)

    def test_an_under_below_one_is_no_part(self):
        for pair in [(1, 0), (0, 0), (-1, 0), (1, -1), (-1, -1), (3, -2), (0, -1), (LEFT, -RIGHT)]:
            self.assertIs(is_part(pair), False)

    def test_nought_over_another_under_than_one_is_no_part(self):
        for under in [2, 3, 10, LONG]:
            self.assertIs(is_part((0, under)), False)

    def test_just_what_lowest_leaves_as_it_is(self):
        for number in NUMBERS:
            for under in UNDERS:
                self.assertIs(is_part((number, under)), lowest(number, under) == (number, under))


class Reckoning(PartCase):
    def test_plain_ones(self):
        self.assertEqual(plus((1, 2), (1, 3)), (5, 6))
        self.assertEqual(plus((1, 6), (1, 3)), (1, 2))
        self.assertEqual(plus((-1, 2), (1, 2)), (0, 1))
        self.assertEqual(less((1, 2), (1, 3)), (1, 6))
        self.assertEqual(less((1, 3), (1, 2)), (-1, 6))
        self.assertEqual(less((2, 3), (2, 3)), (0, 1))
        self.assertEqual(times((2, 3), (3, 4)), (1, 2))
        self.assertEqual(times((-2, 3), (-3, 2)), (1, 1))
        self.assertEqual(times((0, 1), (-3, 2)), (0, 1))
        self.assertEqual(over((1, 2), (1, 4)), (2, 1))
        self.assertEqual(over((-1, 2), (3, 4)), (-2, 3))
        self.assertEqual(over((0, 1), (3, 4)), (0, 1))

    def test_all_against_all(self):
        for one in PARTS:
            for other in PARTS:
                left, right = Fraction(*one), Fraction(*other)
                self.assertPart(plus(one, other), left + right)
                self.assertPart(less(one, other), left - right)
                self.assertPart(times(one, other), left * right)
                if right > 0:
                    self.assertPart(over(one, other), left / right)

    def test_over_nought_or_below_it_is_refused(self):
        for other in [(0, 1), (-1, 1), (-1, 2), (-LEFT, RIGHT), (-VAST, 1)]:
            for one in [(0, 1), (1, 1), (-3, 2), (LONG, 1), (VAST, 1)]:
                self.assertRaises(BadPart, over, one, other)


class Below(unittest.TestCase):
    def test_both_ways(self):
        for one, other in [((1, 3), (1, 2)), ((-1, 2), (-1, 3)), ((-1, 2), (0, 1)), ((0, 1), (1, LONG)),
                           ((LEFT - 1, LEFT), (LEFT, RIGHT)), ((-1, 1), (1, 2))]:
            self.assertIs(below(one, other), True)
            self.assertIs(below(other, one), False)

    def test_parts_that_are_alike(self):
        for one in PARTS:
            self.assertIs(below(one, tuple(one)), False)

    def test_all_against_all(self):
        for one in PARTS:
            for other in PARTS:
                self.assertIs(below(one, other), Fraction(*one) < Fraction(*other))


class Down(unittest.TestCase):
    def test_plain_ones(self):
        for part, whole in [((0, 1), 0), ((7, 2), 3), ((1, 2), 0), ((5, 1), 5), ((LEFT, RIGHT), 0), ((LONG, 1), LONG)]:
            self.assertEqual(down(part), whole)

    def test_below_nought_it_goes_away_from_nought(self):
        for part, whole in [((-1, 2), -1), ((-7, 2), -4), ((-4, 3), -2), ((-5, 1), -5), ((-LEFT, RIGHT), -1),
                            ((-RIGHT, LEFT), -2)]:
            self.assertEqual(down(part), whole)

    def test_all(self):
        for part in PARTS:
            whole = down(part)
            self.assertIs(type(whole), int)
            self.assertEqual(whole, floor(Fraction(*part)))


class OneUnder(unittest.TestCase):
    def test_the_least_under_for_all(self):
        for row, under in [([], 1), ([(0, 1)], 1), ([(1, 2), (-1, 3)], 6), ([(1, 4), (5, 6)], 12), ([(1, 7)] * 3, 7),
                           ([(1, LEFT), (1, RIGHT), (1, LONG)], LONG)]:
            self.assertEqual(one_under(row), under)

    def test_the_numbers_over_it(self):
        self.assertEqual(numbers_over([], 1), [])
        self.assertEqual(numbers_over([(1, 4), (-5, 6), (0, 1), (2, 1)], 12), [3, -10, 0, 24])


class Total(PartCase):
    def test_no_parts(self):
        self.assertEqual(total([]), (0, 1))

    def test_one_and_several(self):
        self.assertEqual(total([(-2, 3)]), (-2, 3))
        self.assertEqual(total([(1, 2), (1, 3), (1, 6)]), (1, 1))
        self.assertEqual(total([(1, 2), (-1, 3), (-1, 6)]), (0, 1))
        self.assertPart(total(PARTS), sum([Fraction(*part) for part in PARTS]))

    def test_the_list_stays_as_it_was(self):
        row = [(1, 2), (3, 4), (-1, 3)]
        first = total(row)
        self.assertEqual(row, [(1, 2), (3, 4), (-1, 3)])
        row.append((1, 1))
        self.assertEqual(first, (11, 12))
        self.assertEqual(total(row), (23, 12))
        self.assertEqual(total([]), (0, 1))


if __name__ == "__main__":
    unittest.main()
