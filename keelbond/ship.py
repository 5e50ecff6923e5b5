"""One ship: its day, its funds, its claims, its bill and its stand.

What a deed refuses is asked ahead of the changes here, not in them.
"""

from keelbond.parts import down, less
from keelbond.ranks import loan_due, ranked
from keelbond.share import shared
from keelbond.touch import heap_worth

FREIGHTS = 1
HULL_AND_FREIGHTS = (0, 1)


# A claim of a ship. Its terms are, for a wage, the wage for a day and the day of dismissal or None; for a loan, the
# sum, the gain, the worth of its heap then and what was lost since; for a rescue and an old due, the sum alone.
# A debt is never changed, as ships that were copied from one another have it in common.
class Debt:
    def __init__(self, number, word, moment, touched, terms):
        self.number = number
        self.word = word
        self.moment = moment
        self.touched = touched
        self.terms = terms

    def due(self, today):
        terms = self.terms
        if self.word == "wage":
            until = today if terms[1] is None else terms[1]
            return (terms[0] * (until - self.moment), 1)
        if self.word == "loan":
            return loan_due(terms[0], terms[1], terms[2], terms[3])
        return (terms[0], 1)

    def with_terms(self, terms):
        return Debt(self.number, self.word, self.moment, self.touched, terms)

    def after_loss(self, fund, worth):
        if self.word != "loan" or fund not in self.touched:
            return self
        return self.with_terms(self.terms[:3] + (self.terms[3] + worth,))


# A list that a ship has is never changed, but another one put in its place: copies of the ship have it in common.
class Ship:
    # One that was never out.
    def __init__(self):
        self.away = False
        self.today = 0
        self.voyage = 0
        self.funds = [0] * 6
        self.lots = []
        self.debts = []
        self.made = 0
        self.landed = []

    def copy(self):
        other = Ship()
        other.away = self.away
        other.today = self.today
        other.voyage = self.voyage
        other.funds = self.funds
        other.lots = self.lots
        other.debts = self.debts
        other.made = self.made
        other.landed = self.landed
        return other

    def claims(self):
        return [(debt.number, debt.word, debt.moment, debt.due(self.today), debt.touched) for debt in self.debts]

    def bill(self):
        owed = [(debt.due(self.today), debt.touched) for debt in self.debts]
        owners = [((worth, 1), (fund,)) for fund, worth in enumerate(self.funds)]
        kinds = [(debt.word, debt.moment) for debt in self.debts] + [("owner", 0) for owner in owners]
        return [(asked[0], asked[1], rank) for asked, rank in zip(owed + owners, ranked(kinds))]

    # What each of the bill is paid in the stand.
    def row(self):
        return shared(self.funds, self.bill())

    def stand(self):
        row = self.row()
        return ([(debt.number, part) for debt, part in zip(self.debts, row)], row[len(self.debts):])

    def go_out(self, worth):
        self.away = True
        self.voyage += 1
        self.funds = [worth, 0, 0, 0, 0, 0]
        self.lots = []

    def grow(self, fund, worth):
        grown = list(self.funds)
        grown[fund] += worth
        self.funds = grown

    def load(self, lot, worth, freight):
        self.lots = self.lots + [lot]
        self.grow(lot, worth)
        self.grow(FREIGHTS, freight)

    def sail(self, days):
        self.today += days

    def owe(self, word, touched, terms):
        self.made += 1
        self.debts = self.debts + [Debt(self.made, word, self.today, touched, terms)]

    def hire(self, wage):
        self.owe("wage", HULL_AND_FREIGHTS, (wage, None))

    def lend(self, heap, lent, gain):
        self.owe("loan", heap, (lent, gain, heap_worth(self.funds, heap), 0))

    def rescue(self, heap, asked):
        self.owe("rescue", heap, (asked,))

    # The debt with this number gets other terms.
    def amend(self, number, terms):
        self.debts = [debt.with_terms(terms) if debt.number == number else debt for debt in self.debts]

    def debt_of(self, number):
        for debt in self.debts:
            if debt.number == number:
                return debt
        return None

    def dismiss(self, number):
        self.amend(number, (self.debt_of(number).terms[0], self.today))

    def lose(self, fund, worth):
        self.grow(fund, -worth)
        self.debts = [debt.after_loss(fund, worth) for debt in self.debts]

    def land(self):
        stand = self.stand()
        left = []
        for debt, paid in zip(self.debts, stand[0]):
            rest = down(less(debt.due(self.today), paid[1]))
            if rest >= 1:
                moment = debt.moment if debt.word == "old" else self.voyage
                left.append(Debt(debt.number, "old", moment, HULL_AND_FREIGHTS, (rest,)))
        self.debts = left
        self.landed = self.landed + [stand]
        self.away = False

    def settle(self, number, paid):
        rest = self.debt_of(number).terms[0] - paid
        self.amend(number, (rest,))
        self.debts = [debt for debt in self.debts if debt.number != number or rest > 0]
