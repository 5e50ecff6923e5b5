"""Papers: for a claim that falls short, a heap of funds that is spent on those ahead of it and those like it."""

from keelbond.parts import below, numbers_over, one_under, over
from keelbond.touch import heap_worth, heaps, overdrawn, within


def fill(due, paid):
    if due == (0, 1):
        return (1, 1)
    return over(paid, due)


# The places of the claims that a paper for the claim at a place counts, that one among them.
def counted(claims, parts, place):
    rank = claims[place][2]
    reached = fill(claims[place][0], parts[place])
    found = []
    for other, claim in enumerate(claims):
        if claim[2] < rank:
            found.append(other)
        elif claim[2] == rank and not below(reached, fill(claim[0], parts[other])):
            found.append(other)
    return found


# All papers for the claim at a place. Sums are whole numbers over one under, as lowering each of them would be slow.
def papers(worths, claims, parts, place):
    if not below(parts[place], claims[place][0]):
        return []
    under = one_under(parts)
    numbers = numbers_over(parts, under)
    places = counted(claims, parts, place)
    found = []
    for heap in heaps(len(worths)):
        spent = sum([numbers[other] for other in places if within(claims[other][1], heap)])
        if within(claims[place][1], heap) and spent == heap_worth(worths, heap) * under:
            found.append(heap)
    return found


# A tuple that is no heap of these funds is none of the papers, so it needs no look of its own.
def good_paper(worths, claims, parts, place, heap):
    return heap in papers(worths, claims, parts, place)


def paper(worths, claims, parts, place):
    found = papers(worths, claims, parts, place)
    if len(found) == 0:
        return None
    return found[0]


def is_sharing(worths, claims, parts):
    if overdrawn(worths, claims, parts) is not None:
        return False
    for place, claim in enumerate(claims):
        if parts[place] != claim[0] and paper(worths, claims, parts, place) is None:
            return False
    return True
