"""The book: its ships, its deeds, and what can be asked of them."""

from keelbond.deeds import find, find_at_sea, find_debt, lend, ships_behind
from keelbond.errors import NoBack
from keelbond.paper import paper
from keelbond.table import table


# A step is a pair: a deed, and the dict of all ships behind it. Neither such a dict nor a ship in it is changed, so
# that going back is letting go of the last step, and twins may have their steps in common.
class Book:
    def __init__(self):
        self.steps = []
        self.undone = []

    def fleet(self):
        if len(self.steps) == 0:
            return {}
        return self.steps[-1][1]

    def do(self, deed):
        self.steps.append((deed, ships_behind(self.fleet(), deed)))
        self.undone = []

    def back(self):
        if len(self.steps) == 0:
            raise NoBack("no deed can be taken back")
        self.undone.append(self.steps.pop())
        return self.undone[-1][0]

    def again(self):
        if len(self.undone) == 0:
            raise NoBack("no deed can be done again")
        self.steps.append(self.undone.pop())
        return self.steps[-1][0]

    def deeds(self):
        return [deed for deed, ships in self.steps]

    def ships(self):
        return list(self.fleet())

    def at_sea(self, ship):
        return find(self.fleet(), ship).away

    def day(self, ship):
        return find(self.fleet(), ship).today

    def claims(self, ship):
        return find(self.fleet(), ship).claims()

    def landings(self, ship):
        return [(list(claims), list(owners)) for claims, owners in find(self.fleet(), ship).landed]

    def worths(self, ship):
        return list(find_at_sea(self.fleet(), ship).funds)

    def bill(self, ship):
        return find_at_sea(self.fleet(), ship).bill()

    def stand(self, ship):
        return find_at_sea(self.fleet(), ship).stand()

    def table(self, ship):
        found = find_at_sea(self.fleet(), ship)
        return table(found.funds, found.bill(), found.row())

    def paper(self, ship, number):
        found = find_at_sea(self.fleet(), ship)
        find_debt(found, number)
        place = [debt.number for debt in found.debts].index(number)
        return paper(found.funds, found.bill(), found.row(), place)

    # The loan is made to a copy of the ship, where it is the last of the claims.
    def offer(self, ship, heap, lent, gain):
        found = find_at_sea(self.fleet(), ship).copy()
        lend(found, heap, lent, gain)
        return found.stand()[0][-1][1]

    def twin(self):
        other = Book()
        other.steps = list(self.steps)
        other.undone = list(self.undone)
        return other
