import unittest

from cases import LONG, SoonCase, row
from keelbond import errors
from keelbond.book import Book
from own_book import BOTH, tell, told, whole

MOST = 10 ** 9


def book_of(*deeds):
    return tell(Book(), deeds)


def dues(book, ship="argo"):
    return {number: due for number, word, moment, due, touched in book.claims(ship)}


class DeedCase(SoonCase):
    def refused(self, book, name, deed):
        """The deed is refused by just this class, and all that can be asked stays as it was."""
        before = whole(book)
        with self.assertRaises(errors.KeelError) as taken:
            book.do(deed)
        self.assertEqual((type(taken.exception).__name__, deed), (name, deed))
        self.assertEqual(whole(book), before)

    def done(self, book, deed):
        self.assertIsNone(book.do(deed))
        self.assertEqual(book.deeds()[-1], deed)

    def bounds(self, book, deed, place, least, most, name):
        """The number at a place of the deed is done from least to most, and refused one beyond and far off."""
        def with_number(number):
            return deed[:place] + (number,) + deed[place + 1:]

        for number in [least - 1, most + 1, -LONG, LONG]:
            self.refused(book, name, with_number(number))
        for number in [least, most]:
            self.done(book, with_number(number))
            book.back()


class NoShipAndAtHome(DeedCase):
    DEEDS = [
        ("load", "argo", 2, 10, 5), ("sail", "argo", 1), ("hire", "argo", 5), ("dismiss", "argo", 1),
        ("lend", "argo", (0,), 5, 5), ("rescue", "argo", (0,), 5), ("lose", "argo", 0, 1), ("land", "argo"),
    ]
    # Each of these has something wrong behind the name too.
    WRONG = [
        ("load", "argo", 9, 0, -1), ("sail", "argo", 0), ("hire", "argo", 0), ("dismiss", "argo", 99),
        ("lend", "argo", (), 0, -1), ("rescue", "argo", (7,), 0), ("lose", "argo", 6, 0),
    ]

    def test_no_ship(self):
        for deed in self.DEEDS + self.WRONG + [("settle", "argo", 1, 1), ("settle", "argo", 0, 0)]:
            self.refused(Book(), "NoShip", deed)
            self.refused(book_of(("out", "bo", 5)), "NoShip", deed)
        for name in ["", "Argo", "argonauts", "arg", "argos", "argo ", "argo\n"]:
            self.refused(book_of(("out", "argo", 5)), "NoShip", ("sail", name, 1))

    def test_no_ship_when_the_going_out_was_taken_back(self):
        book = book_of(("out", "argo", 5))
        book.back()
        self.refused(book, "NoShip", ("sail", "argo", 1))

    def test_at_home(self):
        book = book_of(("out", "argo", 10), ("hire", "argo", 30), ("sail", "argo", 1), ("land", "argo"))
        self.assertEqual(dues(book), {1: (20, 1)})
        for deed in self.DEEDS + self.WRONG:
            self.refused(book, "AtHome", deed)

    def test_at_sea_they_are_done(self):
        book = book_of(("out", "argo", 10))
        for deed in [self.DEEDS[2]] + self.DEEDS[:2] + self.DEEDS[3:]:
            self.done(book, deed)


class Out(DeedCase):
    def test_bounds(self):
        self.bounds(Book(), ("out", "argo", 5), 2, 1, MOST, "BadWorth")
        self.bounds(book_of(("out", "argo", 5), ("land", "argo")), ("out", "argo", 5), 2, 1, MOST, "BadWorth")

    def test_names(self):
        for name in ["a", "z", "abcdefgh", "zzzzzzzz"]:
            self.done(Book(), ("out", name, 5))
        for name in ["", "abcdefghi", "Argo", "argo1", "ar go", "argo\n", "-", " "]:
            self.refused(Book(), "BadName", ("out", name, 5))

    def test_at_sea(self):
        book = book_of(("out", "argo", 5))
        self.refused(book, "AtSea", ("out", "argo", 5))
        book.do(("land", "argo"))
        self.done(book, ("out", "argo", 6))
        self.refused(book, "AtSea", ("out", "argo", 5))

    def test_a_fifth_ship(self):
        book = book_of(*[("out", name, 5) for name in ["argo", "bo", "cyd", "dove"]])
        self.refused(book, "Full", ("out", "elk", 5))
        book.do(("land", "bo"))
        self.refused(book, "Full", ("out", "elk", 5))
        self.done(book, ("out", "bo", 5))
        self.assertEqual(book.ships(), ["argo", "bo", "cyd", "dove"])

    def test_the_first_refusal_goes_first(self):
        book = book_of(*[("out", name, 5) for name in ["argo", "bo", "cyd", "dove"]])
        self.refused(book, "BadName", ("out", "Argo", 0))
        self.refused(book, "BadName", ("out", "ninesigns", MOST + 1))
        self.refused(book, "AtSea", ("out", "argo", 0))
        self.refused(book, "BadWorth", ("out", "elk", 0))
        self.refused(book, "Full", ("out", "elk", 1))

    def test_what_it_does(self):
        book = book_of(("out", "argo", 70))
        self.assertEqual((book.ships(), book.at_sea("argo"), book.day("argo")), (["argo"], True, 0))
        self.assertEqual((book.worths("argo"), book.claims("argo")), ([70, 0, 0, 0, 0, 0], []))

    def test_the_next_voyage(self):
        book = book_of(("out", "argo", 70), ("load", "argo", 3, 20, 5), ("sail", "argo", 6), ("land", "argo"),
                       ("out", "argo", 8))
        self.assertEqual((book.worths("argo"), book.day("argo")), ([8, 0, 0, 0, 0, 0], 6))


class Load(DeedCase):
    def test_bounds(self):
        book = book_of(("out", "argo", 5))
        self.bounds(book, ("load", "argo", 2, 10, 5), 2, 2, 5, "BadLot")
        self.bounds(book, ("load", "argo", 2, 10, 5), 3, 1, MOST, "BadWorth")
        self.bounds(book, ("load", "argo", 2, 10, 5), 4, 0, MOST, "BadWorth")
        for lot in [0, 1]:
            self.refused(book, "BadLot", ("load", "argo", lot, 10, 5))

    def test_a_lot_twice_in_one_voyage_and_again_in_the_next(self):
        book = book_of(("out", "argo", 5), ("load", "argo", 2, 10, 5))
        self.refused(book, "Laden", ("load", "argo", 2, 10, 5))
        self.done(book, ("load", "argo", 3, 10, 5))
        # One that perished was laden in this voyage all the same.
        book.do(("lose", "argo", 2, 10))
        self.refused(book, "Laden", ("load", "argo", 2, 10, 5))
        book.do(("land", "argo"))
        book.do(("out", "argo", 5))
        self.done(book, ("load", "argo", 2, 10, 5))
        self.refused(book, "Laden", ("load", "argo", 2, 10, 5))

    def test_the_lots_of_other_ships(self):
        book = book_of(("out", "argo", 5), ("load", "argo", 2, 10, 5), ("out", "bo", 5))
        self.done(book, ("load", "bo", 2, 11, 6))
        self.assertEqual((book.worths("argo"), book.worths("bo")), ([5, 5, 10, 0, 0, 0], [5, 6, 11, 0, 0, 0]))

    def test_the_first_refusal_goes_first(self):
        book = book_of(("out", "argo", 5), ("load", "argo", 2, 10, 5))
        self.refused(book, "BadLot", ("load", "argo", 1, 0, -1))
        self.refused(book, "Laden", ("load", "argo", 2, 0, -1))
        self.refused(book, "BadWorth", ("load", "argo", 3, 0, -1))

    def test_what_it_does(self):
        book = book_of(("out", "argo", 5), ("load", "argo", 2, 10, 7), ("load", "argo", 5, 30, 0),
                       ("load", "argo", 4, MOST, MOST), ("load", "argo", 3, MOST, MOST))
        self.assertEqual(book.worths("argo"), [5, 7 + 2 * MOST, 10, MOST, MOST, 30])


class Sail(DeedCase):
    def test_bounds(self):
        self.bounds(book_of(("out", "argo", 5)), ("sail", "argo", 5), 2, 1, 1000, "BadDays")

    def test_what_it_does(self):
        book = book_of(("out", "argo", 5), ("out", "bo", 5), ("sail", "argo", 5), ("sail", "argo", 1000))
        self.assertEqual((book.day("argo"), book.day("bo")), (1005, 0))


class Crowds(DeedCase):
    MORE = [("hire", "argo", 5), ("lend", "argo", (0,), 5, 5), ("rescue", "argo", (0,), 5)]

    def test_an_eleventh_claim(self):
        book = book_of(("out", "argo", 5))
        for turn in range(10):
            self.done(book, self.MORE[turn % 3])
        for deed in self.MORE:
            self.refused(book, "Crowded", deed)
        self.done(book, ("sail", "argo", 1))

    def test_old_dues_count(self):
        book = book_of(("out", "argo", 1), *[("rescue", "argo", (0,), 5)] * 9, ("land", "argo"), ("out", "argo", 1))
        self.assertEqual(len(book.claims("argo")), 9)
        self.done(book, self.MORE[0])
        for deed in self.MORE:
            self.refused(book, "Crowded", deed)
        book.do(("land", "argo"))
        book.do(("settle", "argo", 4, 3))
        book.do(("out", "argo", 1))
        for deed in self.MORE[:2]:
            book.do(deed)
        self.refused(book, "Crowded", self.MORE[2])
        self.assertEqual([claim[0] for claim in book.claims("argo")], [1, 2, 3, 5, 6, 7, 8, 9, 11, 12])

    def test_a_dismissed_wage_counts(self):
        book = book_of(("out", "argo", 5), *[("hire", "argo", 5)] * 10, ("dismiss", "argo", 3))
        self.refused(book, "Crowded", ("hire", "argo", 5))

    def test_crowded_goes_last(self):
        book = book_of(("out", "argo", 5), *[("hire", "argo", 5)] * 10)
        self.refused(book, "BadSum", ("hire", "argo", 0))
        self.refused(book, "BadHeap", ("lend", "argo", (), 5, 5))
        self.refused(book, "Worthless", ("lend", "argo", (1,), 5, 5))
        self.refused(book, "BadSum", ("lend", "argo", (0,), 0, 5))
        self.refused(book, "BadGain", ("lend", "argo", (0,), 5, -1))
        self.refused(book, "BadHeap", ("rescue", "argo", (), 5))
        self.refused(book, "Worthless", ("rescue", "argo", (1,), 5))
        self.refused(book, "BadSum", ("rescue", "argo", (0,), 0))


class Hire(DeedCase):
    def test_bounds(self):
        self.bounds(book_of(("out", "argo", 5)), ("hire", "argo", 5), 2, 1, 10 ** 6, "BadSum")

    def test_what_it_does(self):
        book = book_of(("out", "argo", 5), ("sail", "argo", 3), ("hire", "argo", 7))
        self.assertEqual(book.claims("argo"), [(1, "wage", 3, (0, 1), BOTH)])


class Dismiss(DeedCase):
    def test_no_claim(self):
        book = book_of(("out", "argo", 5), ("hire", "argo", 7), ("out", "bo", 5), ("hire", "bo", 1), ("hire", "bo", 1))
        for number in [0, -1, 2, 3, LONG]:
            self.refused(book, "NoClaim", ("dismiss", "argo", number))
        self.done(book, ("dismiss", "bo", 2))

    def test_not_hired(self):
        book = book_of(("out", "argo", 5), ("rescue", "argo", (0,), 20), ("land", "argo"), ("out", "argo", 5),
                       ("hire", "argo", 7), ("lend", "argo", (0,), 5, 5), ("rescue", "argo", (0,), 5))
        for number in [1, 3, 4]:
            self.refused(book, "NotHired", ("dismiss", "argo", number))
        self.done(book, ("dismiss", "argo", 2))
        self.refused(book, "NotHired", ("dismiss", "argo", 2))
        book.do(("sail", "argo", 1))
        self.refused(book, "NotHired", ("dismiss", "argo", 2))

    def test_a_wage_of_an_earlier_voyage(self):
        book = book_of(("out", "argo", 5), ("hire", "argo", 7), ("sail", "argo", 1), ("land", "argo"),
                       ("out", "argo", 5))
        self.refused(book, "NotHired", ("dismiss", "argo", 1))
        book = book_of(("out", "argo", 5), ("hire", "argo", 7), ("land", "argo"), ("out", "argo", 5))
        self.refused(book, "NoClaim", ("dismiss", "argo", 1))

    def test_wages_over_days(self):
        book = book_of(("out", "argo", 500), ("hire", "argo", 7), ("sail", "argo", 2), ("hire", "argo", 10),
                       ("sail", "argo", 3))
        self.assertEqual(dues(book), {1: (35, 1), 2: (30, 1)})
        book.do(("dismiss", "argo", 1))
        self.assertEqual(dues(book), {1: (35, 1), 2: (30, 1)})
        book.do(("sail", "argo", 1000))
        self.assertEqual(dues(book), {1: (35, 1), 2: (10030, 1)})
        self.assertEqual([claim[:3] for claim in book.claims("argo")], [(1, "wage", 0), (2, "wage", 2)])


class Heaps(DeedCase):
    SHIP = [("out", "argo", 50), ("load", "argo", 2, 10, 5), ("load", "argo", 5, 20, 0)]
    BAD = [(), (6,), (-1,), (-1, 0), (0, 0), (1, 0), (0, 2, 1), (0, 6), (0, 1, 2, 3, 4, 5, 6), (LONG,), (2, 2), (-6,)]

    def test_bad_heaps(self):
        book = book_of(*self.SHIP)
        for heap in self.BAD:
            self.refused(book, "BadHeap", ("lend", "argo", heap, 5, 5))
            self.refused(book, "BadHeap", ("rescue", "argo", heap, 5))

    def test_good_heaps(self):
        for heap in [(0,), (1,), (5,), (0, 1), (0, 1, 2, 5), (2, 5)]:
            book = book_of(*self.SHIP)
            self.done(book, ("lend", "argo", heap, 5, 5))
            self.done(book, ("rescue", "argo", heap, 5))
            self.assertEqual([claim[4] for claim in book.claims("argo")], [heap, heap])

    def test_all_six(self):
        book = book_of(*self.SHIP, ("load", "argo", 3, 1, 0), ("load", "argo", 4, 1, 0))
        self.done(book, ("lend", "argo", (0, 1, 2, 3, 4, 5), 5, 5))
        self.done(book, ("rescue", "argo", (0, 1, 2, 3, 4, 5), 5))

    def test_worthless_funds(self):
        book = book_of(*self.SHIP)
        for heap in [(3,), (4,), (0, 3), (0, 1, 2, 3, 5), (3, 4)]:
            self.refused(book, "Worthless", ("lend", "argo", heap, 5, 5))
            self.refused(book, "Worthless", ("rescue", "argo", heap, 5))
        book.do(("lose", "argo", 2, 9))
        self.done(book, ("lend", "argo", (0, 2), 5, 5))
        book.do(("lose", "argo", 2, 1))
        book.do(("lose", "argo", 1, 5))
        for heap in [(2,), (1,), (0, 2), (0, 1)]:
            self.refused(book, "Worthless", ("lend", "argo", heap, 5, 5))
            self.refused(book, "Worthless", ("rescue", "argo", heap, 5))

    def test_freights_of_no_lot(self):
        book = book_of(("out", "argo", 50), ("load", "argo", 2, 10, 0))
        self.refused(book, "Worthless", ("lend", "argo", (1,), 5, 5))


class Lend(DeedCase):
    def test_bounds(self):
        book = book_of(("out", "argo", 5))
        self.bounds(book, ("lend", "argo", (0,), 5, 5), 3, 1, MOST, "BadSum")
        self.bounds(book, ("lend", "argo", (0,), 5, 5), 4, 0, 1000, "BadGain")

    def test_the_first_refusal_goes_first(self):
        book = book_of(("out", "argo", 5))
        self.refused(book, "BadHeap", ("lend", "argo", (1, 0), 0, -1))
        self.refused(book, "Worthless", ("lend", "argo", (0, 1), 0, -1))
        self.refused(book, "BadSum", ("lend", "argo", (0,), 0, -1))
        self.refused(book, "BadGain", ("lend", "argo", (0,), 1, -1))

    def test_what_it_does(self):
        book = book_of(("out", "argo", 50), ("sail", "argo", 3), ("lend", "argo", (0,), 10, 15))
        self.assertEqual(book.claims("argo"), [(1, "loan", 3, (23, 2), (0,))])

    def test_losses_in_several_parts(self):
        book = book_of(("out", "argo", 60), ("load", "argo", 2, 40, 10), ("lend", "argo", (0, 2), 50, 20))
        self.assertEqual(dues(book), {1: (60, 1)})
        for fund, lost, due in [(0, 10, (54, 1)), (1, 10, (54, 1)), (2, 5, (51, 1)), (0, 1, (252, 5)),
                                (0, 49, (21, 1)), (2, 34, (3, 5)), (2, 1, (0, 1))]:
            book.do(("lose", "argo", fund, lost))
            self.assertEqual(dues(book), {1: due})

    def test_a_whole_fund_lost(self):
        book = book_of(("out", "argo", 60), ("lend", "argo", (0,), 50, 20), ("lose", "argo", 0, 60))
        self.assertEqual(dues(book), {1: (0, 1)})
        book.do(("land", "argo"))
        self.assertEqual(book.claims("argo"), [])

    def test_losses_ahead_of_the_lending(self):
        book = book_of(("out", "argo", 60), ("lose", "argo", 0, 20), ("lend", "argo", (0,), 50, 0),
                       ("lose", "argo", 0, 10), ("lend", "argo", (0,), 50, 0), ("lose", "argo", 0, 10))
        self.assertEqual(dues(book), {1: (25, 1), 2: (100, 3)})

    def test_a_lot_laden_behind_the_lending(self):
        # Neither the lot nor its freight is worth anything to the loan, but what is lost of the freights is lost.
        book = book_of(("out", "argo", 60), ("load", "argo", 2, 40, 10), ("lend", "argo", (0, 1), 70, 0),
                       ("load", "argo", 3, 40, 90))
        self.assertEqual(dues(book), {1: (70, 1)})
        book.do(("lose", "argo", 3, 40))
        self.assertEqual(dues(book), {1: (70, 1)})
        book.do(("lose", "argo", 1, 30))
        self.assertEqual(dues(book), {1: (40, 1)})
        book.do(("lose", "argo", 1, 50))
        self.assertEqual(dues(book), {1: (0, 1)})
        self.assertEqual(book.worths("argo"), [60, 20, 40, 0, 0, 0])


class Rescue(DeedCase):
    def test_bounds(self):
        self.bounds(book_of(("out", "argo", 5)), ("rescue", "argo", (0,), 5), 3, 1, MOST, "BadSum")

    def test_the_first_refusal_goes_first(self):
        book = book_of(("out", "argo", 5))
        self.refused(book, "BadHeap", ("rescue", "argo", (1, 0), 0))
        self.refused(book, "Worthless", ("rescue", "argo", (0, 1), 0))
        self.refused(book, "BadSum", ("rescue", "argo", (0,), 0))

    def test_what_it_does(self):
        book = book_of(("out", "argo", 50), ("sail", "argo", 3), ("rescue", "argo", (0,), 80))
        self.assertEqual(book.claims("argo"), [(1, "rescue", 3, (80, 1), (0,))])
        book.do(("lose", "argo", 0, 50))
        book.do(("sail", "argo", 3))
        self.assertEqual(book.claims("argo"), [(1, "rescue", 3, (80, 1), (0,))])


class Lose(DeedCase):
    def test_bounds(self):
        book = book_of(("out", "argo", 50), ("load", "argo", 2, 10, 5))
        self.bounds(book, ("lose", "argo", 0, 5), 3, 1, 50, "BadWorth")
        self.bounds(book, ("lose", "argo", 1, 5), 3, 1, 5, "BadWorth")
        self.bounds(book, ("lose", "argo", 2, 5), 3, 1, 10, "BadWorth")
        for fund in [-1, 6, 7, -6, LONG]:
            self.refused(book, "BadFund", ("lose", "argo", fund, 1))

    def test_a_fund_that_is_worth_nothing(self):
        book = book_of(("out", "argo", 50))
        for fund in range(1, 6):
            for worth in [0, 1, -1]:
                self.refused(book, "BadWorth", ("lose", "argo", fund, worth))

    def test_each_fund(self):
        book = book_of(("out", "argo", 50), *[("load", "argo", lot, 10, 5) for lot in [2, 3, 4, 5]])
        for fund in range(6):
            self.done(book, ("lose", "argo", fund, 3))
        self.assertEqual(book.worths("argo"), [47, 17, 7, 7, 7, 7])

    def test_the_worth_now(self):
        book = book_of(("out", "argo", 50), ("lose", "argo", 0, 20))
        self.bounds(book, ("lose", "argo", 0, 5), 3, 1, 30, "BadWorth")
        book.do(("lose", "argo", 0, 30))
        self.refused(book, "BadWorth", ("lose", "argo", 0, 1))

    def test_the_first_refusal_goes_first(self):
        self.refused(book_of(("out", "argo", 50)), "BadFund", ("lose", "argo", 6, 0))


class Land(DeedCase):
    def test_what_it_does(self):
        book = book_of(("out", "argo", 50), ("hire", "argo", 4), ("sail", "argo", 5), ("lend", "argo", (0,), 100, 0))
        self.assertEqual(book.stand("argo"), ([(1, (20, 1)), (2, (30, 1))], row(0, 0, 0, 0, 0, 0)))
        self.done(book, ("land", "argo"))
        self.assertEqual((book.at_sea("argo"), book.day("argo")), (False, 5))
        self.assertEqual(book.claims("argo"), [(2, "old", 1, (70, 1), BOTH)])
        self.assertEqual(book.landings("argo"), [([(1, (20, 1)), (2, (30, 1))], row(0, 0, 0, 0, 0, 0))])

    def test_rests_are_cut_down(self):
        # Due 10 and 2 tenths; each gain of 1 is a tenth more.
        for gain, rest in [(0, 0), (9, 0), (10, 1), (11, 1), (19, 1), (20, 2), (29, 2)]:
            book = book_of(("out", "argo", 10), ("lend", "argo", (0,), 10, gain), ("land", "argo"))
            self.assertEqual(dues(book), {1: (rest, 1)} if rest else {})

    def test_rests_of_claims_that_share(self):
        # Two like claims of 10 on a worth of 7: three and a half each are paid.
        book = book_of(("out", "argo", 7), *[("rescue", "argo", (0,), 10)] * 2, ("land", "argo"))
        self.assertEqual(dues(book), {1: (6, 1), 2: (6, 1)})

    def test_claims_that_are_paid_are_gone(self):
        book = book_of(("out", "argo", 7), ("rescue", "argo", (0,), 7), ("hire", "argo", 1), ("land", "argo"))
        self.assertEqual(book.claims("argo"), [])

    def test_whatever_a_claim_touched_its_rest_touches_hull_and_freights(self):
        book = book_of(("out", "argo", 7), ("load", "argo", 4, 6, 0), ("rescue", "argo", (4,), 10), ("land", "argo"))
        self.assertEqual(book.claims("argo"), [(1, "old", 1, (4, 1), BOTH)])
        # In the next voyage it is paid out of the hull.
        book.do(("out", "argo", 3))
        self.assertEqual(book.stand("argo"), ([(1, (3, 1))], row(0, 0, 0, 0, 0, 0)))

    def test_numbers_over_several_voyages(self):
        book = book_of(("out", "argo", 10), ("hire", "argo", 1), ("rescue", "argo", (0,), 30), ("land", "argo"),
                       ("out", "argo", 1), ("hire", "argo", 1), ("rescue", "argo", (0,), 5), ("land", "argo"),
                       ("out", "argo", 1), ("rescue", "argo", (0,), 2))
        self.assertEqual(book.claims("argo"), [(2, "old", 1, (20, 1), BOTH), (4, "old", 2, (4, 1), BOTH),
                                               (5, "rescue", 0, (2, 1), (0,))])

    def test_an_old_due_that_stays_unpaid_over_two_landings(self):
        book = book_of(("out", "argo", 10), ("sail", "argo", 8), ("land", "argo"), ("out", "argo", 10),
                       ("rescue", "argo", (0,), 30), ("land", "argo"))
        self.assertEqual(book.claims("argo"), [(1, "old", 2, (20, 1), BOTH)])
        book.do(("out", "argo", 5))
        book.do(("sail", "argo", 8))
        book.do(("land", "argo"))
        self.assertEqual(book.claims("argo"), [(1, "old", 2, (15, 1), BOTH)])
        book.do(("out", "argo", 5))
        book.do(("land", "argo"))
        self.assertEqual(book.claims("argo"), [(1, "old", 2, (10, 1), BOTH)])

    def test_old_dues_of_a_later_voyage_are_ahead(self):
        book = book_of(("out", "argo", 1), ("rescue", "argo", (0,), 10), ("land", "argo"),
                       ("out", "argo", 1), ("rescue", "argo", (0,), 10), ("rescue", "argo", (0,), 10), ("land", "argo"),
                       ("out", "argo", 20))
        self.assertEqual([claim[2] for claim in book.bill("argo")], [1, 0, 0] + [2] * 6)
        self.assertEqual(dues(book), {1: (9, 1), 2: (9, 1), 3: (9, 1)})
        self.assertEqual(book.stand("argo"), ([(1, (2, 1)), (2, (9, 1)), (3, (9, 1))], row(0, 0, 0, 0, 0, 0)))


class Settle(DeedCase):
    HOME = [("out", "argo", 10), ("rescue", "argo", (0,), 20), ("lend", "argo", (0,), 30, 0), ("hire", "argo", 5),
            ("land", "argo")]

    def test_bounds(self):
        book = book_of(*self.HOME)
        self.assertEqual(dues(book), {1: (16, 1), 2: (24, 1)})
        self.bounds(book, ("settle", "argo", 1, 5), 3, 1, 16, "BadSum")
        self.bounds(book, ("settle", "argo", 2, 5), 3, 1, 24, "BadSum")

    def test_at_sea(self):
        book = book_of(*self.HOME, ("out", "argo", 1))
        for deed in [("settle", "argo", 1, 1), ("settle", "argo", 9, 0), ("settle", "argo", 1, 0)]:
            self.refused(book, "AtSea", deed)

    def test_no_claim(self):
        book = book_of(*self.HOME)
        for number in [0, 3, 4, -1, LONG]:
            self.refused(book, "NoClaim", ("settle", "argo", number, 1))
            self.refused(book, "NoClaim", ("settle", "argo", number, 0))

    def test_in_part_and_whole(self):
        book = book_of(*self.HOME, ("settle", "argo", 1, 6))
        self.assertEqual(book.claims("argo"), [(1, "old", 1, (10, 1), BOTH), (2, "old", 1, (24, 1), BOTH)])
        self.refused(book, "BadSum", ("settle", "argo", 1, 11))
        book.do(("settle", "argo", 1, 10))
        self.assertEqual(book.claims("argo"), [(2, "old", 1, (24, 1), BOTH)])
        self.refused(book, "NoClaim", ("settle", "argo", 1, 1))
        book.do(("settle", "argo", 2, 24))
        self.assertEqual(book.claims("argo"), [])
        self.done(book, ("out", "argo", 5))
        self.assertEqual(book.claims("argo"), [])

    def test_the_rest_goes_on(self):
        book = book_of(*self.HOME, ("settle", "argo", 2, 20), ("out", "argo", 5))
        self.assertEqual(dues(book), {1: (16, 1), 2: (4, 1)})
        self.assertEqual(book.stand("argo"), ([(1, (4, 1)), (2, (1, 1))], row(0, 0, 0, 0, 0, 0)))


class Refused(DeedCase):
    def test_a_refused_deed_takes_no_number(self):
        book = book_of(("out", "argo", 5))
        for deed in [("hire", "argo", 0), ("lend", "argo", (1,), 5, 5), ("rescue", "argo", (0,), 0)]:
            self.refused(book, told(book.do, deed).partition(" ")[2], deed)
        book.do(("hire", "argo", 1))
        self.assertEqual([claim[0] for claim in book.claims("argo")], [1])

    def test_a_refused_loading_leaves_the_freights(self):
        book = book_of(("out", "argo", 5))
        self.refused(book, "BadWorth", ("load", "argo", 2, MOST + 1, 5))
        self.refused(book, "BadWorth", ("load", "argo", 2, 5, MOST + 1))
        self.assertEqual(book.worths("argo"), [5, 0, 0, 0, 0, 0])
        self.done(book, ("load", "argo", 2, 5, 5))


if __name__ == "__main__":
    unittest.main()
