"""Tables: what each claim is paid out of each fund.

While a table is made, its amounts are whole numbers over one under.
"""

from keelbond.errors import Overdrawn
from keelbond.parts import below, lowest, numbers_over, one_under, total


def good_row(many, touched, part, row):
    if len(row) != many or total(row) != part:
        return False
    for fund, paid in enumerate(row):
        if below(paid, (0, 1)) or (paid != (0, 1) and fund not in touched):
            return False
    return True


def good_table(worths, claims, parts, rows):
    if len(rows) != len(claims):
        return False
    for claim, part, row in zip(claims, parts, rows):
        if not good_row(len(worths), claim[1], part, row):
            return False
    for fund, worth in enumerate(worths):
        if below((worth, 1), total([row[fund] for row in rows])):
            return False
    return True


# Each claim that is paid out of the fund, with each fund that it could be moved to.
def moves_from(claims, rows, fund):
    found = []
    for place, row in enumerate(rows):
        if row[fund] > 0:
            found = found + [(place, other) for other in claims[place][1]]
    return found


# A chain is a tuple of pairs (place of a claim, fund): the first claim is paid out of its fund, and each later one is
# moved to its fund from the fund of the pair ahead. Short chains go first, as else the count of chains that are
# needed could grow with the numbers themselves.
def shortest_chain(claims, rows, left, place):
    chains = [((place, fund),) for fund in claims[place][1]]
    reached = list(claims[place][1])
    at = 0
    while at < len(chains):
        fund = chains[at][-1][1]
        if left[fund] > 0:
            return chains[at]
        for step in moves_from(claims, rows, fund):
            if step[1] not in reached:
                chains.append(chains[at] + (step,))
                reached.append(step[1])
        at += 1
    # The funds reached have nothing left, and whoever is paid out of them touches no others, nor does this claim,
    # which still lacks something: so their load is above their worth.
    raise Overdrawn(tuple(sorted(reached)))


def most_along(rows, left, chain):
    most = left[chain[-1][1]]
    for ahead, step in zip(chain, chain[1:]):
        most = min(most, rows[step[0]][ahead[1]])
    return most


def move_along(rows, left, chain, amount):
    rows[chain[0][0]][chain[0][1]] += amount
    for ahead, step in zip(chain, chain[1:]):
        rows[step[0]][ahead[1]] -= amount
        rows[step[0]][step[1]] += amount
    left[chain[-1][1]] -= amount


def pay(claims, rows, left, place, number):
    lacking = number
    while lacking > 0:
        chain = shortest_chain(claims, rows, left, place)
        amount = min(lacking, most_along(rows, left, chain))
        move_along(rows, left, chain, amount)
        lacking -= amount


def as_parts(numbers, under):
    return [lowest(number, under) for number in numbers]


def table(worths, claims, parts):
    under = one_under(parts)
    left = [worth * under for worth in worths]
    rows = [[0] * len(worths) for claim in claims]
    for place, number in enumerate(numbers_over(parts, under)):
        pay(claims, rows, left, place, number)
    return [as_parts(row, under) for row in rows]
