"""Names of ships, the ranks of their claims, and the due of a loan."""

from keelbond.parts import lowest

LETTERS = "abcdefghijklmnopqrstuvwxyz"
ORDER = {"wage": 0, "loan": 1, "rescue": 1, "old": 2, "owner": 3}


def is_name(text):
    return len(text) >= 1 and len(text) <= 8 and all([letter in LETTERS for letter in text])


# What claims are ordered by, the foremost ones least: of loans, rescues and old dues the later ones go ahead.
def standing(word, moment):
    if word == "wage" or word == "owner":
        return (ORDER[word], 0)
    return (ORDER[word], -moment)


def ranked(kinds):
    standings = [standing(word, moment) for word, moment in kinds]
    steps = sorted(set(standings))
    return [steps.index(found) for found in standings]


def loan_due(lent, gain, worth, lost):
    return lowest(lent * (100 + gain) * max(worth - lost, 0), 100 * worth)
