"""What several tests need: cases to try, and reckonings of their own to judge the answers by.

The reckonings use Python's fractions and sets, and nothing of the package.
"""

import signal
import unittest
from fractions import Fraction
from itertools import chain, combinations
from random import Random

# Primes, so that sums of parts over several of them have unders as large as can be.
PRIMES = [1000003, 1000033, 1000037, 1000039, 1000081, 1000099, 1000117, 1000121, 1000133, 1000151, 1000159, 1000171,
          1000183, 1000187, 1000193, 1000199]
LONG = 10 ** 40 + 7


def part_of(value):
    value = Fraction(value)
    return (value.numerator, value.denominator)


def value_of(part):
    return Fraction(*part)


def claim(due, touched, rank=0):
    return (part_of(due), touched, rank)


def row(*numbers):
    return [part_of(number) for number in numbers]


def subsets(many):
    return list(chain.from_iterable(combinations(range(many), size) for size in range(many + 1)))


def inside(claims, heap):
    """The places of the claims within a heap."""
    return [place for place, claim in enumerate(claims) if set(claim[1]) <= set(heap)]


def worth_of(worths, heap):
    return sum(worths[fund] for fund in heap)


def own_load(claims, parts, heap):
    return sum((value_of(parts[place]) for place in inside(claims, heap)), Fraction(0))


def overdrawn_heaps(worths, claims, parts):
    return [heap for heap in subsets(len(worths)) if own_load(claims, parts, heap) > worth_of(worths, heap)]


def table_faults(worths, claims, parts, rows):
    """A walk over a table: what is wrong with it, as a list of texts."""
    faults = []
    out_of = [Fraction(0)] * len(worths)
    if len(rows) != len(claims):
        faults.append("count of rows")
    for (due, touched, rank), part, paid_out in zip(claims, parts, rows):
        if len(paid_out) != len(worths):
            faults.append("length of a row")
            continue
        for fund, paid in enumerate(paid_out):
            if value_of(paid) < 0:
                faults.append("below nought")
            if value_of(paid) != 0 and fund not in touched:
                faults.append("not touched")
            if paid != part_of(value_of(paid)):
                faults.append("not a part")
            out_of[fund] += value_of(paid)
        if sum(map(value_of, paid_out), Fraction(0)) != value_of(part):
            faults.append("a claim's sum")
    if any(spent > worth for spent, worth in zip(out_of, worths)):
        faults.append("a fund's sum")
    return faults


def fill_of(due, paid):
    return value_of(paid) / value_of(due) if value_of(due) else Fraction(1)


def own_level(worths, claims, paid, going):
    """The fill, and the places that stop at it; paid are fractions, going places of claims to be raised."""
    fill, spent = Fraction(1), []
    for heap in subsets(len(worths)):
        here = inside(claims, heap)
        asked = sum(value_of(claims[place][0]) for place in here if place in going)
        room = worth_of(worths, heap) - sum(paid[place] for place in here if place not in going)
        if asked and room / asked < fill:
            fill, spent = room / asked, []
        if asked and room / asked == fill:
            spent.append(heap)
    if fill == 1:
        return fill, list(going)
    return fill, [place for place in going if any(place in inside(claims, heap) for heap in spent)]


def own_shared(worths, claims):
    """The sharing out as the words of the document tell it, over all heaps."""
    paid = [Fraction(0)] * len(claims)
    for rank in sorted({claim[2] for claim in claims}):
        going = [place for place, claim in enumerate(claims) if claim[2] == rank and claim[0][0] > 0]
        while going:
            fill, halted = own_level(worths, claims, paid, going)
            for place in halted:
                paid[place] = fill * value_of(claims[place][0])
            going = [place for place in going if place not in halted]
    return [part_of(value) for value in paid]


def own_papers(worths, claims, parts, place):
    """All heaps that are a paper for a claim: none where it is paid its due."""
    due, touched, rank = claims[place]
    if value_of(parts[place]) >= value_of(due):
        return []
    fill = fill_of(due, parts[place])
    counted = [other for other, claim in enumerate(claims)
               if claim[2] < rank or (claim[2] == rank and fill_of(claim[0], parts[other]) <= fill)]
    found = []
    for heap in subsets(len(worths)):
        here = inside(claims, heap)
        if place in here and worth_of(worths, heap) == sum(value_of(parts[at]) for at in here if at in counted):
            found.append(heap)
    return found


def some_claims(chance, many, count, top, unders=(1,), ranks=(0,)):
    """So many claims over so many funds, by a source that gives the same ones each time."""
    claims = []
    for place in range(count):
        size = chance.randint(0 if chance.random() < 0.1 else 1, many) if many else 0
        touched = tuple(sorted(chance.sample(range(many), min(size, chance.randint(1, 3)))))
        due = Fraction(chance.randint(0, top), chance.choice(unders))
        claims.append((part_of(due), touched, chance.choice(ranks)))
    return claims


def some_cases(seed, count, top=30, unders=(1, 2, 3, 7), ranks=(-2, 0, 1, 5), most=6, claims=16):
    """Pairs (worths, claims) of all sizes up to the bounds."""
    chance = Random(seed)
    for turn in range(count):
        many = chance.randint(0, most)
        worths = [chance.choice([0, chance.randint(0, top)]) if chance.random() < 0.3 else chance.randint(1, top)
                  for fund in range(many)]
        yield worths, some_claims(chance, many, chance.randint(0, claims), top, unders, ranks)


def some_rows(chance, worths, claims, count):
    """Rows of parts that can be paid: in some order each claim gets some of what it still can have."""
    for turn in range(count):
        paid = [Fraction(0)] * len(claims)
        for place in chance.sample(range(len(claims)), len(claims)):
            rooms = [worth_of(worths, heap) - sum(paid[other] for other in inside(claims, heap))
                     for heap in subsets(len(worths)) if place in inside(claims, heap)]
            most = min(rooms + [value_of(claims[place][0])])
            paid[place] = most * chance.choice([Fraction(1), Fraction(1), Fraction(2, 3), Fraction(0)])
        yield [part_of(value) for value in paid]


class SoonCase(unittest.TestCase):
    """Each of its tests fails, rather than going on for ever, where what it asks does not end soon."""

    def setUp(self):
        self.addCleanup(signal.signal, signal.SIGVTALRM, signal.signal(signal.SIGVTALRM, self.late))
        self.addCleanup(signal.setitimer, signal.ITIMER_VIRTUAL, 0)
        # Seconds of work, not of waiting: a machine that is busy elsewhere fails no test.
        signal.setitimer(signal.ITIMER_VIRTUAL, 20)

    def late(self, number, frame):
        self.fail("it does not end soon")
