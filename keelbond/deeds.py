"""The deeds of a book: what each of them refuses, and the ships behind it.

Ships are handed as a dict by name. Neither it nor a ship in it is changed, as a book may go back to them.
"""

from keelbond.errors import (
    AtHome, AtSea, BadDays, BadFund, BadGain, BadHeap, BadLot, BadName, BadSum, BadWorth, Crowded, Full, Laden, NoClaim,
    NoShip, NotHired, Worthless,
)
from keelbond.ranks import is_name
from keelbond.ship import Ship
from keelbond.touch import is_heap

MOST_SHIPS = 4
MOST_CLAIMS = 10
FUNDS = 6
MOST_WORTH = 1000000000
MOST_LENT = 1000000000
MOST_WAGE = 1000000
MOST_DAYS = 1000
MOST_GAIN = 1000


def is_from(number, least, most):
    return number >= least and number <= most


def find(ships, name):
    if name not in ships:
        raise NoShip("no ship of that name went out")
    return ships[name]


def find_at_sea(ships, name):
    ship = find(ships, name)
    if not ship.away:
        raise AtHome("the ship is at home")
    return ship


def find_debt(ship, number):
    debt = ship.debt_of(number)
    if debt is None:
        raise NoClaim("the ship has no claim of that number")
    return debt


def out(ships, name, worth):
    if not is_name(name):
        raise BadName("a name is 1 to 8 small letters")
    if name in ships and ships[name].away:
        raise AtSea("the ship is at sea")
    if not is_from(worth, 1, MOST_WORTH):
        raise BadWorth("no worth of a hull")
    if name not in ships and len(ships) >= MOST_SHIPS:
        raise Full("the book has all the ships that it can keep")
    ship = ships[name].copy() if name in ships else Ship()
    ship.go_out(worth)
    return ship


def load(ship, lot, worth, freight):
    if not is_from(lot, 2, FUNDS - 1):
        raise BadLot("no place of a lot")
    if lot in ship.lots:
        raise Laden("the lot was laden in this voyage")
    if not is_from(worth, 1, MOST_WORTH) or not is_from(freight, 0, MOST_WORTH):
        raise BadWorth("no worth of a lot, or no freight")
    ship.load(lot, worth, freight)


def sail(ship, days):
    if not is_from(days, 1, MOST_DAYS):
        raise BadDays("no count of days")
    ship.sail(days)


def check_room(ship):
    if len(ship.debts) >= MOST_CLAIMS:
        raise Crowded("the ship has all the claims that it can have")


def hire(ship, wage):
    if not is_from(wage, 1, MOST_WAGE):
        raise BadSum("no wage for a day")
    check_room(ship)
    ship.hire(wage)


def dismiss(ship, number):
    debt = find_debt(ship, number)
    if debt.word != "wage" or debt.terms[1] is not None:
        raise NotHired("no wage that goes on")
    ship.dismiss(number)


def check_stake(ship, heap, asked):
    if heap == () or not is_heap(FUNDS, heap):
        raise BadHeap("no heap of the six funds, or one of none")
    if any([ship.funds[fund] == 0 for fund in heap]):
        raise Worthless("a fund of the heap is worth nothing now")
    if not is_from(asked, 1, MOST_LENT):
        raise BadSum("no sum of a loan or a rescue")


def lend(ship, heap, lent, gain):
    check_stake(ship, heap, lent)
    if not is_from(gain, 0, MOST_GAIN):
        raise BadGain("no gain of a loan")
    check_room(ship)
    ship.lend(heap, lent, gain)


def rescue(ship, heap, asked):
    check_stake(ship, heap, asked)
    check_room(ship)
    ship.rescue(heap, asked)


def lose(ship, fund, worth):
    if not is_from(fund, 0, FUNDS - 1):
        raise BadFund("no place of a fund")
    if not is_from(worth, 1, ship.funds[fund]):
        raise BadWorth("not so much of the fund is there")
    ship.lose(fund, worth)


def settle(ship, number, paid):
    if ship.away:
        raise AtSea("the ship is at sea")
    debt = find_debt(ship, number)
    if not is_from(paid, 1, debt.terms[0]):
        raise BadSum("not from 1 to the rest that is due")
    ship.settle(number, paid)


def do_at_sea(ship, deed):
    word = deed[0]
    if word == "load":
        load(ship, deed[2], deed[3], deed[4])
    elif word == "sail":
        sail(ship, deed[2])
    elif word == "hire":
        hire(ship, deed[2])
    elif word == "dismiss":
        dismiss(ship, deed[2])
    elif word == "lend":
        lend(ship, deed[2], deed[3], deed[4])
    elif word == "rescue":
        rescue(ship, deed[2], deed[3])
    elif word == "lose":
        lose(ship, deed[2], deed[3])
    elif word == "land":
        ship.land()


# The ship that the deed is about, as it is behind it.
def ship_behind(ships, deed):
    name = deed[1]
    if deed[0] == "out":
        return out(ships, name, deed[2])
    if deed[0] == "settle":
        ship = find(ships, name).copy()
        settle(ship, deed[2], deed[3])
        return ship
    ship = find_at_sea(ships, name).copy()
    do_at_sea(ship, deed)
    return ship


def ships_behind(ships, deed):
    told = dict(ships)
    told[deed[1]] = ship_behind(ships, deed)
    return told
