import unittest
from copy import deepcopy
from fractions import Fraction
from itertools import permutations, product
from random import Random

from cases import LONG, part_of
from keelbond.ranks import is_name, loan_due, ranked

LETTERS = "abcdefghijklmnopqrstuvwxyz"
WORDS = ["wage", "loan", "rescue", "old", "owner"]


def own_ranked(kinds):
    """A kind's rank is the count of unlike standings ahead of it, each pair of kinds being compared."""
    def ahead(one, other):
        group = {"wage": 0, "loan": 1, "rescue": 1, "old": 2, "owner": 3}
        if group[one[0]] != group[other[0]]:
            return group[one[0]] < group[other[0]]
        return one[0] in ("loan", "rescue", "old") and one[1] > other[1]

    told = []
    for kind in kinds:
        fore = [one for one in kinds if ahead(one, kind)]
        unlike = []
        for one in fore:
            if not any(not ahead(one, other) and not ahead(other, one) for other in unlike):
                unlike.append(one)
        told.append(len(unlike))
    return told


class Names(unittest.TestCase):
    def test_lengths(self):
        for text, told in [("", False), ("a", True), ("z", True), ("ab", True), ("abcdefg", True), ("abcdefgh", True),
                           ("zzzzzzzz", True), ("abcdefghi", False), ("a" * 100, False)]:
            self.assertIs(is_name(text), told, text)

    def test_each_letter_at_each_place(self):
        for letter in LETTERS:
            for place in range(8):
                self.assertIs(is_name("m" * place + letter + "n" * (7 - place)), True)

    def test_other_signs_at_each_place(self):
        others = [chr(code) for code in range(ord(" "), ord("~") + 1) if chr(code) not in LETTERS] + ["\n"]
        self.assertEqual(len(others), 95 - 26 + 1)
        for sign in others:
            self.assertIs(is_name(sign), False, sign)
            for length in [2, 5, 8]:
                for place in range(length):
                    self.assertIs(is_name("m" * place + sign + "n" * (length - 1 - place)), False, sign)

    def test_names_with_something_around_them(self):
        for text in [" argo", "argo ", "argo\n", "\nargo", "ar go", "Argo", "ARGO", "argo2", "ar-go", "argo,"]:
            self.assertIs(is_name(text), False, text)


class Ranks(unittest.TestCase):
    def test_none(self):
        self.assertEqual(ranked([]), [])

    def test_each_word_alone(self):
        for word, moment in product(WORDS, [0, 1, 7, LONG]):
            self.assertEqual(ranked([(word, moment)]), [0])
            self.assertEqual(ranked([(word, moment)] * 3), [0, 0, 0])

    def test_the_order_of_the_words(self):
        kinds = {"wage": 0, "loan": 1, "old": 2, "owner": 3}
        for words in permutations(kinds):
            self.assertEqual(ranked([(word, 5) for word in words]), [kinds[word] for word in words])
        kinds = {"wage": 0, "rescue": 1, "old": 2, "owner": 3}
        for words in permutations(kinds):
            self.assertEqual(ranked([(word, 5) for word in words]), [kinds[word] for word in words])

    def test_the_order_of_the_words_goes_ahead_of_moments(self):
        self.assertEqual(ranked([("old", 9), ("loan", 1)]), [1, 0])
        self.assertEqual(ranked([("old", 9), ("rescue", 1)]), [1, 0])
        self.assertEqual(ranked([("loan", 9), ("wage", 1)]), [1, 0])
        self.assertEqual(ranked([("owner", 9), ("old", 1)]), [1, 0])
        self.assertEqual(ranked([("owner", 9), ("wage", 1)]), [1, 0])

    def test_wages_and_owners_with_unlike_moments(self):
        self.assertEqual(ranked([("wage", 3), ("wage", 0), ("wage", LONG)]), [0, 0, 0])
        self.assertEqual(ranked([("owner", 3), ("owner", 0), ("owner", LONG)]), [0, 0, 0])
        self.assertEqual(ranked([("owner", 1), ("wage", 2), ("owner", 3), ("wage", 4)]), [1, 0, 1, 0])

    def test_loans_and_rescues_of_one_day_are_alike(self):
        self.assertEqual(ranked([("loan", 4), ("rescue", 4), ("loan", 4), ("rescue", 4)]), [0, 0, 0, 0])
        self.assertEqual(ranked([("loan", 0), ("rescue", 0), ("owner", 0)]), [0, 0, 1])

    def test_loans_and_rescues_of_a_later_day_are_ahead(self):
        for one, other in product(["loan", "rescue"], repeat=2):
            self.assertEqual(ranked([(one, 4), (other, 5)]), [1, 0])
            self.assertEqual(ranked([(one, 5), (other, 4)]), [0, 1])
            self.assertEqual(ranked([(one, 0), (other, LONG), (one, 9)]), [2, 0, 1])

    def test_old_dues_of_a_later_voyage_are_ahead(self):
        self.assertEqual(ranked([("old", 1), ("old", 2), ("old", 1), ("old", 12)]), [2, 1, 2, 0])
        self.assertEqual(ranked([("old", 3), ("old", 3)]), [0, 0])

    def test_no_gaps(self):
        self.assertEqual(ranked([("loan", 100), ("old", 100), ("loan", 0), ("old", 1), ("owner", 0)]), [0, 2, 1, 3, 4])
        self.assertEqual(ranked([("owner", 0), ("old", 50), ("wage", 9)]), [2, 1, 0])

    def test_all_together(self):
        kinds = [("wage", 3), ("loan", 5), ("rescue", 7), ("old", 1), ("loan", 7), ("old", 2), ("wage", 8),
                 ("rescue", 5), ("loan", 0), ("old", 2), ("owner", 0), ("owner", 1)]
        self.assertEqual(ranked(kinds), [0, 2, 1, 5, 1, 4, 0, 2, 3, 4, 6, 6])

    def test_any_kinds(self):
        chance = Random(121)
        for turn in range(400):
            kinds = [(chance.choice(WORDS), chance.choice([0, 1, 2, 3, LONG])) for at in range(chance.randint(0, 16))]
            told = ranked(kinds)
            self.assertEqual(told, own_ranked(kinds))
            self.assertEqual(sorted(set(told)), list(range(len(set(told)))))
            self.assertIs(type(told), list)

    def test_what_is_handed_in_stays_as_it_was(self):
        kinds = [("old", 1), ("wage", 4), ("loan", 2), ("owner", 0), ("old", 2)]
        handed = deepcopy(kinds)
        told = ranked(handed)
        self.assertEqual(handed, kinds)
        whole = list(told)
        handed.clear()
        told.append("mine")
        self.assertEqual(ranked(kinds), whole)


class LoanDue(unittest.TestCase):
    def test_nothing_lost(self):
        for lent, gain, worth, due in [(100, 0, 50, (100, 1)), (100, 10, 50, (110, 1)), (1, 0, 1, (1, 1)),
                                       (1, 1, 7, (101, 100)), (30, 5, 9, (63, 2)), (7, 1000, 3, (77, 1))]:
            self.assertEqual(loan_due(lent, gain, worth, 0), due)

    def test_some_lost(self):
        for lent, gain, worth, lost, due in [
            (100, 0, 50, 25, (50, 1)), (100, 10, 50, 5, (99, 1)), (100, 0, 3, 1, (200, 3)), (100, 0, 3, 2, (100, 3)),
            (10, 20, 7, 3, (48, 7)), (1, 0, 10 ** 9, 1, (10 ** 9 - 1, 10 ** 9)), (12, 50, 9, 3, (12, 1)),
        ]:
            self.assertEqual(loan_due(lent, gain, worth, lost), due)

    def test_all_lost_and_more(self):
        for worth in [1, 2, 50, LONG]:
            for more in [0, 1, worth, LONG]:
                self.assertEqual(loan_due(100, 10, worth, worth + more), (0, 1))
            self.assertNotEqual(loan_due(100, 10, worth, worth - 1), (0, 1))

    def test_gains_from_0_to_1000(self):
        self.assertEqual(loan_due(8, 0, 4, 1), (6, 1))
        self.assertEqual(loan_due(8, 1000, 4, 1), (66, 1))
        self.assertEqual(loan_due(10 ** 9, 1000, 6 * 10 ** 9, 0), (11 * 10 ** 9, 1))

    def test_in_lowest_terms(self):
        for lent, gain, worth in product([1, 2, 5, 30], [0, 1, 25, 50, 100, 1000], [1, 2, 6, 35]):
            for lost in range(0, 40, 3):
                told = loan_due(lent, gain, worth, lost)
                due = Fraction(lent) * (100 + gain) / 100 * max(worth - lost, 0) / worth
                self.assertEqual(told, part_of(due))
                self.assertIs(type(told), tuple)

    def test_large_numbers(self):
        self.assertEqual(loan_due(LONG, LONG, LONG, 0), part_of(Fraction(LONG * (100 + LONG), 100)))
        self.assertEqual(loan_due(3, 0, LONG, LONG - 1), (3, LONG))
        self.assertEqual(loan_due(3, 0, LONG, LONG), (0, 1))
        whole = 10 ** 5000 + 1
        self.assertEqual(loan_due(whole, 100, whole, 1), (2 * (whole - 1), 1))


if __name__ == "__main__":
    unittest.main()
