"""Funds and the claims that touch them: heaps of funds, their worths and their loads."""

from keelbond.parts import below, total


def is_heap(many, places):
    last = -1
    for place in places:
        if place <= last or place >= many:
            return False
        last = place
    return True


def heaps(many):
    found = [()]
    for place in range(many):
        found = found + [heap + (place,) for heap in found]
    return sorted(found)


def within(touched, heap):
    return all([place in heap for place in touched])


def heap_worth(worths, heap):
    return sum([worths[place] for place in heap])


def load_of(claims, parts, heap):
    return total([part for claim, part in zip(claims, parts) if within(claim[1], heap)])


def overdrawn(worths, claims, parts):
    # The heaps rise, so the first one found is the least one.
    for heap in heaps(len(worths)):
        if below((heap_worth(worths, heap), 1), load_of(claims, parts, heap)):
            return heap
    return None
