"""How far claims can be raised together until a heap that they lie within is spent."""

from keelbond.parts import below, lowest, numbers_over, one_under, times
from keelbond.touch import heap_worth, heaps, within


# For each heap that one of the claims to be raised lies within: the heap, what the others leave of its worth, and
# what is due to the claims to be raised within it. Both are whole numbers over one under, the same for all heaps.
def bounds(worths, claims, parts, places):
    row = [claims[place][0] if place in places else part for place, part in enumerate(parts)]
    under = one_under(row)
    numbers = numbers_over(row, under)
    found = []
    for heap in heaps(len(worths)):
        inside = [place for place, claim in enumerate(claims) if within(claim[1], heap)]
        due = sum([numbers[place] for place in inside if place in places])
        if due > 0:
            paid = sum([numbers[place] for place in inside if place not in places])
            found.append((heap, heap_worth(worths, heap) * under - paid, due))
    return found


def least_fill(found):
    reached = (1, 1)
    for heap, room, due in found:
        if below((room, due), reached):
            reached = (room, due)
    return lowest(reached[0], reached[1])


# The level, and the places that stop at it.
def rise(worths, claims, parts, places):
    found = bounds(worths, claims, parts, places)
    reached = least_fill(found)
    if reached == (1, 1):
        return (reached, list(places))
    spent = [heap for heap, room, due in found if due * reached[0] == room * reached[1]]
    halted = [place for place in places if any([within(claims[place][1], heap) for heap in spent])]
    return (reached, halted)


def level(worths, claims, parts, places):
    return least_fill(bounds(worths, claims, parts, places))


def stopped(worths, claims, parts, places):
    return rise(worths, claims, parts, places)[1]


def filled(worths, claims, parts, places):
    row = list(parts)
    going = list(places)
    while len(going) > 0:
        risen = rise(worths, claims, row, going)
        for place in risen[1]:
            row[place] = times(risen[0], claims[place][0])
        going = [place for place in going if place not in risen[1]]
    return row
