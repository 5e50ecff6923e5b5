"""A book of the tests' own, to judge the program's by: it keeps nothing but the deeds, and walks them anew for each
answer. It uses nothing of the package."""

import re
from copy import deepcopy
from fractions import Fraction

from cases import own_papers, own_shared, part_of, value_of, worth_of

BOTH = (0, 1)
NAMES = ["argo", "bo", "cyd", "dove", "elk", "nobody", "Argo", ""]
LOOKS = ["at_sea", "day", "claims", "landings", "worths", "bill", "stand"]


class Refusal(Exception):
    """Its one word is the name of the refusal's class."""


def refuse(name, due):
    if due:
        raise Refusal(name)


def told(ask, *given):
    """What is answered, or the name of the refusal, of this book and of the program's."""
    try:
        return ask(*given)
    except Refusal as refusal:
        return "refused " + str(refusal)
    except ValueError as refusal:
        return "refused " + type(refusal).__name__


def tell(book, deeds):
    """The book, told the deeds."""
    for deed in deeds:
        book.do(deed)
    return book


def asked(book, looks=LOOKS):
    """All that can be asked of a book but deeds, tables, papers and offers, as copies that stay as they are."""
    return deepcopy([book.ships()] + [[told(getattr(book, look), name) for look in looks] for name in NAMES])


def whole(book):
    """All that can be asked of one of the program's books, what can be taken back and done again among it."""
    answers = [list(book.deeds()), asked(book, LOOKS + ["table"])]
    for name in book.ships():
        numbers = [claim[0] for claim in book.claims(name)]
        answers.append([told(book.paper, name, number) for number in numbers + [0, 10 ** 9]])
        answers.append(told(book.offer, name, (0,), 50, 10))
    other = book.twin()
    answers.append([told(other.again) for turn in range(3)])
    answers.append([told(book.twin().back), asked(other)])
    return answers


def some_number(chance, least, most, plain):
    """A number, mostly a plain one, else at a bound or one beyond."""
    if chance.random() < 0.75:
        return chance.randint(*plain)
    return chance.choice([least, most, least - 1, most + 1])


def some_heap(chance, worths):
    """A heap, mostly one of funds that are worth something."""
    good = [fund for fund, worth in enumerate(worths) if worth > 0]
    if chance.random() < 0.1 or not good:
        return chance.choice([(), (6,), (-1, 2), (1, 1), (3, 2), (0, 1, 6), (5, 4, 3), (0, 1, 2, 3, 4, 5)])
    return tuple(sorted(chance.sample(good, chance.randint(1, min(3, len(good))))))


WORDS_AT_SEA = "load load load sail sail sail hire hire dismiss lend lend lend rescue rescue lose lose land".split()
WORDS_AT_HOME = "out out settle settle settle".split()


def some_deed(chance, own, names):
    """Any deed, mostly one that the ship could do now."""
    name = chance.choice(names) if chance.random() < 0.97 else chance.choice(NAMES)
    away = name in own.ships() and own.is_away(name)
    words = WORDS_AT_SEA if away else WORDS_AT_HOME if name in own.ships() else ["out"]
    word = chance.choice(words if chance.random() < 0.95 else WORDS_AT_SEA + WORDS_AT_HOME)
    worths = own.funds(name) if away else [0] * 6
    numbers = [claim[0] for claim in own.claims(name)] if name in own.ships() else []
    given = {
        "out": lambda: (some_number(chance, 1, 10 ** 9, (1, 60)),),
        "load": lambda: (some_number(chance, 2, 5, (2, 5)), some_number(chance, 1, 10 ** 9, (1, 60)),
                         some_number(chance, 0, 10 ** 9, (0, 30))),
        "sail": lambda: (some_number(chance, 1, 1000, (1, 5)),),
        "hire": lambda: (some_number(chance, 1, 10 ** 6, (1, 9)),),
        "dismiss": lambda: (chance.choice(numbers + [chance.randint(0, 14)]),),
        "lend": lambda: (some_heap(chance, worths), some_number(chance, 1, 10 ** 9, (1, 80)),
                         some_number(chance, 0, 1000, (0, 60))),
        "rescue": lambda: (some_heap(chance, worths), some_number(chance, 1, 10 ** 9, (1, 50))),
        "lose": lambda: (some_number(chance, 0, 5, (0, 2)), chance.choice([chance.randint(0, 20), max(worths)])),
        "land": lambda: (),
        "settle": lambda: (chance.choice(numbers + [chance.randint(0, 14)]), chance.choice([0, 1, 1, 5, 10, 60])),
    }
    return (word, name) + given[word]()


def is_stake(heap):
    return heap != () and list(heap) == sorted(set(heap)) and set(heap) <= set(range(6))


class OwnBook:
    def __init__(self, deeds=()):
        self.kept = []
        self.stands = []
        tell(self, deeds)

    # What a ship is, from its deeds.

    def deeds_of(self, name):
        return [deed for deed in self.kept if deed[1] == name]

    def of_voyage(self, name):
        """The ship's deeds since it went out last."""
        deeds = self.deeds_of(name)
        last = max(at for at, deed in enumerate(deeds) if deed[0] == "out")
        return deeds[last:]

    def is_away(self, name):
        return [deed[0] for deed in self.deeds_of(name) if deed[0] in ("out", "land")][-1:] == ["out"]

    def day_behind(self, deeds):
        return sum(deed[2] for deed in deeds if deed[0] == "sail")

    def funds(self, name):
        funds = [0] * 6
        for deed in self.of_voyage(name):
            if deed[0] == "out":
                funds[0] = deed[2]
            elif deed[0] == "load":
                funds[deed[2]] += deed[3]
                funds[1] += deed[4]
            elif deed[0] == "lose":
                funds[deed[2]] -= deed[3]
        return funds

    def made_claims(self, name):
        """For each claim ever made: (number, voyage, place of its deed among the ship's)."""
        made, voyage = [], 0
        for at, deed in enumerate(self.deeds_of(name)):
            voyage += deed[0] == "out"
            if deed[0] in ("hire", "lend", "rescue"):
                made.append((len(made) + 1, voyage, at))
        return made

    def fresh_due(self, name, number, at):
        """The due of a claim of this voyage, by what came behind the deed at that place."""
        deeds = self.deeds_of(name)
        deed, later = deeds[at], deeds[at + 1:]
        if deed[0] == "rescue":
            return Fraction(deed[3])
        if deed[0] == "hire":
            ends = [place for place, other in enumerate(later) if other == ("dismiss", name, number)]
            return Fraction(deed[2] * self.day_behind(later[:ends[0]] if ends else later))
        book = OwnBook.__new__(OwnBook)
        book.kept = deeds[:at]
        worth = worth_of(book.funds(name), deed[2])
        left = worth - sum(other[3] for other in later if other[0] == "lose" and other[2] in deed[2])
        return Fraction(deed[3] * (100 + deed[4]), 100) * Fraction(max(left, 0), worth)

    def rests(self, name):
        """What is left of each claim that was there at some landing, as the last landing and settlings left it."""
        landed = [rests for ship, stand, rests in self.stands if ship == name][-1:]
        left = dict(landed[0]) if landed else {}
        deeds = self.deeds_of(name)
        last = max([at for at, deed in enumerate(deeds) if deed[0] == "land"], default=-1)
        for deed in deeds[last + 1:]:
            if deed[0] == "settle":
                left[deed[2]] -= deed[3]
        return {number: rest for number, rest in left.items() if rest >= 1}

    # The looks.

    def ships(self):
        return list(dict.fromkeys(deed[1] for deed in self.kept))

    def at_sea(self, name):
        refuse("NoShip", name not in self.ships())
        return self.is_away(name)

    def day(self, name):
        refuse("NoShip", name not in self.ships())
        return self.day_behind(self.deeds_of(name))

    def claims(self, name):
        refuse("NoShip", name not in self.ships())
        rests, deeds = self.rests(name), self.deeds_of(name)
        voyages = sum(deed[0] == "out" for deed in deeds)
        found = []
        for number, voyage, at in self.made_claims(name):
            if number in rests:
                found.append((number, "old", voyage, (rests[number], 1), BOTH))
            elif voyage == voyages and self.is_away(name):
                word = {"hire": "wage", "lend": "loan", "rescue": "rescue"}[deeds[at][0]]
                touched = BOTH if word == "wage" else deeds[at][2]
                due = part_of(self.fresh_due(name, number, at))
                found.append((number, word, self.day_behind(deeds[:at]), due, touched))
        return found

    def landings(self, name):
        refuse("NoShip", name not in self.ships())
        return [stand for ship, stand, rests in self.stands if ship == name]

    def worths(self, name):
        refuse("NoShip", name not in self.ships())
        refuse("AtHome", not self.is_away(name))
        return self.funds(name)

    def bill(self, name):
        worths = self.worths(name)
        order = {"wage": 0, "loan": 1, "rescue": 1, "old": 2, "owner": 3}
        kinds = [(word, moment, due, touched) for number, word, moment, due, touched in self.claims(name)]
        kinds += [("owner", 0, (worth, 1), (fund,)) for fund, worth in enumerate(worths)]
        keys = [(order[word], 0 if word in ("wage", "owner") else -moment) for word, moment, due, touched in kinds]
        return [(due, touched, sorted(set(keys)).index(key)) for (word, moment, due, touched), key in zip(kinds, keys)]

    def stand(self, name):
        parts = own_shared(self.worths(name), self.bill(name))
        numbers = [claim[0] for claim in self.claims(name)]
        return (list(zip(numbers, parts)), parts[len(numbers):])

    def good_papers(self, name, number):
        numbers = [claim[0] for claim in self.claims(name)]
        parts = own_shared(self.worths(name), self.bill(name))
        return own_papers(self.worths(name), self.bill(name), parts, numbers.index(number))

    def offer(self, name, heap, lent, gain):
        book = OwnBook.__new__(OwnBook)
        book.kept, book.stands = list(self.kept), list(self.stands)
        book.do(("lend", name, heap, lent, gain))
        return book.stand(name)[0][-1][1]

    # The deeds.

    def do(self, deed):
        word, name = deed[:2]
        if word == "out":
            refuse("BadName", not re.fullmatch("[a-z]{1,8}", name))
            refuse("AtSea", name in self.ships() and self.is_away(name))
            refuse("BadWorth", not 1 <= deed[2] <= 10 ** 9)
            refuse("Full", name not in self.ships() and len(self.ships()) == 4)
        else:
            refuse("NoShip", name not in self.ships())
            if word != "settle":
                refuse("AtHome", not self.is_away(name))
            getattr(self, "check_" + word)(name, *deed[2:])
        if word == "land":
            self.stands.append((name, self.stand(name), self.left_behind(name)))
        self.kept.append(deed)

    def left_behind(self, name):
        left = {}
        for (number, part), claim in zip(self.stand(name)[0], self.claims(name)):
            rest = value_of(claim[3]) - value_of(part)
            left[number] = rest.numerator // rest.denominator
        return left

    def check_load(self, name, lot, worth, freight):
        refuse("BadLot", lot not in (2, 3, 4, 5))
        refuse("Laden", any(deed[0] == "load" and deed[2] == lot for deed in self.of_voyage(name)))
        refuse("BadWorth", not 1 <= worth <= 10 ** 9 or not 0 <= freight <= 10 ** 9)

    def check_sail(self, name, days):
        refuse("BadDays", not 1 <= days <= 1000)

    def check_hire(self, name, wage):
        refuse("BadSum", not 1 <= wage <= 10 ** 6)
        refuse("Crowded", len(self.claims(name)) == 10)

    def check_dismiss(self, name, number):
        words = {claim[0]: claim[1] for claim in self.claims(name)}
        refuse("NoClaim", number not in words)
        refuse("NotHired", words[number] != "wage" or ("dismiss", name, number) in self.kept)

    def check_stake(self, name, heap, asked):
        refuse("BadHeap", not is_stake(heap))
        refuse("Worthless", any(self.funds(name)[fund] == 0 for fund in heap))
        refuse("BadSum", not 1 <= asked <= 10 ** 9)

    def check_lend(self, name, heap, lent, gain):
        self.check_stake(name, heap, lent)
        refuse("BadGain", not 0 <= gain <= 1000)
        refuse("Crowded", len(self.claims(name)) == 10)

    def check_rescue(self, name, heap, asked):
        self.check_stake(name, heap, asked)
        refuse("Crowded", len(self.claims(name)) == 10)

    def check_lose(self, name, fund, worth):
        refuse("BadFund", fund not in range(6))
        refuse("BadWorth", not 1 <= worth <= self.funds(name)[fund])

    def check_land(self, name):
        pass

    def check_settle(self, name, number, paid):
        refuse("AtSea", self.is_away(name))
        refuse("NoClaim", number not in self.rests(name))
        refuse("BadSum", not 1 <= paid <= self.rests(name)[number])
