"""Parts: fractions in lowest terms, each a pair (number, under) with an under of 1 or more."""

from keelbond.errors import BadPart


# A plain loop, as numbers of any size may need more steps than a recursion may be deep.
def common_factor(number, under):
    greater = number
    lesser = under
    while lesser != 0:
        rest = greater % lesser
        greater = lesser
        lesser = rest
    return greater


def lowest(number, under):
    if under < 1:
        # The number is not told in the words: Python refuses to write very long ones.
        raise BadPart("the under of a part is 1 or more")
    factor = common_factor(number, under)
    return (number // factor, under // factor)


def is_part(pair):
    return pair[1] >= 1 and common_factor(pair[0], pair[1]) == 1


def plus(one, other):
    return lowest(one[0] * other[1] + other[0] * one[1], one[1] * other[1])


def less(one, other):
    return lowest(one[0] * other[1] - other[0] * one[1], one[1] * other[1])


def times(one, other):
    return lowest(one[0] * other[0], one[1] * other[1])


def over(one, other):
    if other[0] < 1:
        raise BadPart("parts are divided by parts above nought alone")
    return lowest(one[0] * other[1], one[1] * other[0])


def below(one, other):
    return one[0] * other[1] < other[0] * one[1]


def down(one):
    return one[0] // one[1]


# The least under over which all parts of a row can be written as whole numbers.
def one_under(row):
    reached = 1
    for part in row:
        reached = reached // common_factor(reached, part[1]) * part[1]
    return reached


def numbers_over(row, under):
    return [part[0] * (under // part[1]) for part in row]


# Brought to one under and lowered once: lowering each sum on the way is slow where the unders are large.
def total(row):
    under = one_under(row)
    return lowest(sum(numbers_over(row, under)), under)
