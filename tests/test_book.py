import unittest
from random import Random

from cases import SoonCase, overdrawn_heaps, own_shared, row, table_faults, value_of
from keelbond import errors
from keelbond.book import Book
from keelbond.paper import good_paper, is_sharing
from own_book import BOTH, LOOKS, NAMES, OwnBook, asked, some_deed, some_heap, tell, told, whole

SHORT = [
    ("out", "argo", 50), ("load", "argo", 2, 40, 10), ("hire", "argo", 3), ("sail", "argo", 4),
    ("lend", "argo", (0, 2), 90, 10), ("out", "bo", 7), ("rescue", "argo", (2,), 30), ("lose", "argo", 0, 5),
    ("sail", "bo", 9), ("land", "argo"), ("settle", "argo", 2, 1), ("out", "argo", 8),
]


def book_of(*deeds):
    return tell(Book(), deeds)


def some_book(seed, turns, many=3):
    """A book of deeds that were done, and the tests' own book of the same deeds."""
    chance, own = Random(seed), OwnBook()
    for turn in range(turns):
        told(own.do, some_deed(chance, own, NAMES[:many]))
    return book_of(*own.kept), own


def refusal(ask, *given):
    try:
        ask(*given)
    except errors.KeelError as taken:
        return type(taken)
    return None


class Beginning(unittest.TestCase):
    def test_a_book_of_no_ships(self):
        book = Book()
        self.assertEqual((book.ships(), book.deeds()), ([], []))
        self.assertIs(refusal(book.back), errors.NoBack)
        self.assertIs(refusal(book.again), errors.NoBack)

    def test_books_have_nothing_in_common(self):
        one, other = Book(), Book()
        one.do(("out", "argo", 5))
        self.assertEqual((other.ships(), other.deeds()), ([], []))
        self.assertIs(refusal(other.back), errors.NoBack)


class Ships(SoonCase):
    def test_names_in_the_order_of_first_going_out(self):
        book = book_of(("out", "dove", 5), ("out", "argo", 5), ("land", "dove"), ("out", "cyd", 5), ("out", "dove", 5))
        self.assertEqual(book.ships(), ["dove", "argo", "cyd"])

    def test_going_out_taken_back(self):
        book = book_of(("out", "dove", 5), ("out", "argo", 5))
        book.back()
        book.back()
        self.assertEqual(book.ships(), [])
        book.do(("out", "argo", 5))
        book.do(("out", "dove", 5))
        self.assertEqual(book.ships(), ["argo", "dove"])

    def test_at_sea_and_day(self):
        book = book_of(*SHORT)
        self.assertEqual([book.at_sea(name) for name in book.ships()], [True, True])
        self.assertEqual([book.day(name) for name in book.ships()], [4, 9])
        book.back()
        self.assertEqual([book.at_sea(name) for name in book.ships()], [False, True])
        self.assertIs(book.at_sea("argo"), False)
        self.assertIs(book.at_sea("bo"), True)

    def test_deeds_of_one_ship_leave_the_others(self):
        book, own = some_book(201, 60)
        for name in book.ships():
            alone = book_of(*[deed for deed in book.deeds() if deed[1] == name])
            for look in LOOKS:
                self.assertEqual(told(getattr(book, look), name), told(getattr(alone, look), name))


class Refusals(SoonCase):
    AT_SEA = [("worths",), ("bill",), ("stand",), ("table",), ("paper", 1), ("paper", 99), ("offer", (0,), 5, 5),
              ("offer", (), 0, -1)]
    ANYWHERE = [("at_sea",), ("day",), ("claims",), ("landings",)]

    def test_no_ship(self):
        for book in [Book(), book_of(("out", "bo", 5)), book_of(("out", "bo", 5), ("land", "bo"))]:
            for name in ["argo", "", "Bo", "b", "bob"]:
                for look in self.ANYWHERE + self.AT_SEA:
                    self.assertIs(refusal(getattr(book, look[0]), name, *look[1:]), errors.NoShip, look)

    def test_at_home(self):
        book = book_of(("out", "argo", 5), ("rescue", "argo", (0,), 9), ("land", "argo"))
        for look in self.AT_SEA:
            self.assertIs(refusal(getattr(book, look[0]), "argo", *look[1:]), errors.AtHome, look)
        for look in self.ANYWHERE:
            self.assertIsNone(refusal(getattr(book, look[0]), "argo"))
        book.do(("out", "argo", 5))
        for look in self.ANYWHERE + self.AT_SEA[:5]:
            self.assertIsNone(refusal(getattr(book, look[0]), "argo", *look[1:]), look)

    def test_no_claim(self):
        book = book_of(("out", "argo", 5), ("hire", "argo", 1), ("rescue", "argo", (0,), 9), ("land", "argo"),
                       ("out", "argo", 5), ("rescue", "argo", (0,), 9))
        self.assertEqual([claim[0] for claim in book.claims("argo")], [2, 3])
        for number in [-1, 0, 1, 4, 5, 10 ** 40]:
            self.assertIs(refusal(book.paper, "argo", number), errors.NoClaim, number)
        for number in [2, 3]:
            self.assertIsNone(refusal(book.paper, "argo", number))


class Stands(SoonCase):
    def assertStand(self, book, own, name):
        worths, bill = own.worths(name), own.bill(name)
        self.assertEqual(book.worths(name), worths)
        self.assertEqual(book.bill(name), bill)
        numbers, owners = book.stand(name)
        self.assertIs(type(book.stand(name)), tuple)
        parts = [part for number, part in numbers] + owners
        self.assertEqual(parts, own_shared(worths, bill))
        self.assertEqual([number for number, part in numbers], [claim[0] for claim in own.claims(name)])
        self.assertEqual(len(owners), 6)
        self.assertIs(is_sharing(worths, bill, parts), True)
        self.assertEqual(overdrawn_heaps(worths, bill, parts), [])
        self.assertEqual(table_faults(worths, bill, parts, book.table(name)), [])
        for place, (number, part) in enumerate(numbers):
            self.assertPaper(book, own, name, number, place, parts)

    def assertPaper(self, book, own, name, number, place, parts):
        heap = book.paper(name, number)
        bill = own.bill(name)
        if value_of(parts[place]) == value_of(bill[place][0]):
            self.assertIsNone(heap)
        else:
            self.assertIn(heap, own.good_papers(name, number))
            self.assertIs(good_paper(own.worths(name), bill, parts, place, heap), True)

    def test_a_bill(self):
        book = book_of(*SHORT[:9])
        self.assertEqual(book.claims("argo"), [
            (1, "wage", 0, (12, 1), BOTH), (2, "loan", 4, (187, 2), (0, 2)), (3, "rescue", 4, (30, 1), (2,)),
        ])
        self.assertEqual(book.bill("argo"), [
            ((12, 1), BOTH, 0), ((187, 2), (0, 2), 1), ((30, 1), (2,), 1), ((45, 1), (0,), 2), ((10, 1), (1,), 2),
            ((40, 1), (2,), 2), ((0, 1), (3,), 2), ((0, 1), (4,), 2), ((0, 1), (5,), 2),
        ])
        # The wage takes the freights and 2 of the hull; 83 are left for the two others, of which the rescue may have
        # 40 at most.
        fill = value_of((83 * 2, 187 + 60))
        self.assertEqual(book.stand("argo"), ([
            (1, (12, 1)), (2, row(fill * value_of((187, 2)))[0]), (3, row(fill * 30)[0]),
        ], row(0, 0, 0, 0, 0, 0)))
        self.assertEqual([book.paper("argo", number) for number in [1, 2, 3]], [None, (0, 1, 2), (0, 1, 2)])
        self.assertStand(book, OwnBook(SHORT[:9]), "argo")

    def test_the_owners_have_what_is_left(self):
        book = book_of(("out", "argo", 50), ("load", "argo", 2, 40, 10), ("rescue", "argo", (0,), 20))
        self.assertEqual(book.stand("argo"), ([(1, (20, 1))], row(30, 10, 40, 0, 0, 0)))
        self.assertIsNone(book.paper("argo", 1))

    def test_no_claims(self):
        book = book_of(("out", "argo", 50), ("load", "argo", 2, 40, 10))
        self.assertEqual(book.stand("argo"), ([], row(50, 10, 40, 0, 0, 0)))
        self.assertStand(book, OwnBook(book.deeds()), "argo")

    def test_ranks_of_all_words(self):
        book = book_of(("out", "argo", 1), ("rescue", "argo", (0,), 10), ("land", "argo"), ("out", "argo", 1),
                       ("rescue", "argo", (0,), 10), ("land", "argo"), ("out", "argo", 90), ("hire", "argo", 1),
                       ("lend", "argo", (0,), 5, 0), ("sail", "argo", 1), ("rescue", "argo", (0,), 5),
                       ("hire", "argo", 1), ("lend", "argo", (0,), 5, 0))
        self.assertEqual([rank for due, touched, rank in book.bill("argo")], [4, 3, 0, 2, 1, 0, 1] + [5] * 6)

    def test_books_of_any_deeds(self):
        for seed in range(210, 222):
            book, own = some_book(seed, 70)
            self.assertEqual(asked(book), asked(own))
            for name in book.ships():
                if book.at_sea(name):
                    self.assertStand(book, own, name)

    def test_all_that_is_answered_on_the_way(self):
        for seed in range(222, 228):
            chance, own, book = Random(seed), OwnBook(), Book()
            for turn in range(80):
                deed = some_deed(chance, own, NAMES[:1 + seed % 5])
                self.assertEqual(told(book.do, deed), told(own.do, deed), deed)
                if deed[1] in own.ships():
                    for look in ["claims", "day", "stand"]:
                        self.assertEqual(told(getattr(book, look), deed[1]), told(getattr(own, look), deed[1]), deed)
            self.assertEqual(book.deeds(), own.kept)
            self.assertEqual(asked(book), asked(own))

    def test_a_crowded_ship_with_large_numbers(self):
        book, own = Book(), OwnBook()
        deeds = [("out", "argo", 10 ** 9 - 63)]
        deeds += [("load", "argo", lot, 10 ** 8 - 7919 * lot, 10 ** 7 - 104729 * lot) for lot in [2, 3, 4, 5]]
        heaps = [(0, 1), (1, 2), (0, 2, 3), (3, 4, 5), (2,), (4, 5), (5,), (0, 4)]
        for turn, heap in enumerate(heaps):
            deeds.append(("lend", "argo", heap, 10 ** 9 - 7 * turn, 999 - 13 * turn))
            deeds.append(("lose", "argo", turn % 6, 1000003 * (turn + 1)))
            deeds.append(("sail", "argo", 1 if turn % 2 else 1000))
        deeds += [("hire", "argo", 999983), ("hire", "argo", 10 ** 6), ("sail", "argo", 7)]
        for deed in deeds:
            book.do(deed)
            own.do(deed)
        self.assertStand(book, own, "argo")


class Landings(SoonCase):
    def test_none(self):
        self.assertEqual(book_of(("out", "argo", 5)).landings("argo"), [])

    def test_what_the_stand_told_just_ahead(self):
        counts = []
        for seed in range(230, 236):
            book, own = some_book(seed, 100, 2)
            again, stands = Book(), {name: [] for name in book.ships()}
            for deed in book.deeds():
                if deed[0] == "land":
                    stands[deed[1]].append(again.stand(deed[1]))
                again.do(deed)
            for name in book.ships():
                self.assertEqual(book.landings(name), stands[name])
                self.assertIs(type(book.landings(name)), list)
                counts.append(len(stands[name]))
        self.assertGreater(max(counts), 2)

    def test_with_and_without_claims(self):
        book = book_of(("out", "argo", 5), ("land", "argo"), ("out", "argo", 7), ("rescue", "argo", (0,), 9),
                       ("land", "argo"))
        self.assertEqual(book.landings("argo"), [([], row(5, 0, 0, 0, 0, 0)), ([(1, (7, 1))], row(0, 0, 0, 0, 0, 0))])


class BackAndAgain(SoonCase):
    def test_one_by_one_to_the_beginning_and_again(self):
        books = [Book()]
        for deed in SHORT:
            books.append(books[-1].twin())
            books[-1].do(deed)
        answers = [asked(book) for book in books]
        book = books[-1].twin()
        for turn in reversed(range(len(SHORT))):
            self.assertEqual(book.back(), SHORT[turn])
            self.assertEqual((asked(book), book.deeds()), (answers[turn], SHORT[:turn]))
        self.assertIs(refusal(book.back), errors.NoBack)
        self.assertEqual(asked(book), answers[0])
        for turn in range(len(SHORT)):
            self.assertEqual(book.again(), SHORT[turn])
            self.assertEqual((asked(book), book.deeds()), (answers[turn + 1], SHORT[:turn + 1]))
        self.assertIs(refusal(book.again), errors.NoBack)
        self.assertEqual(asked(book), answers[-1])

    def test_nothing_to_take_back(self):
        book = Book()
        self.assertIs(refusal(book.back), errors.NoBack)
        book.do(("out", "argo", 5))
        book.back()
        self.assertIs(refusal(book.back), errors.NoBack)
        # The refused step lets nothing go.
        self.assertEqual(book.again(), ("out", "argo", 5))

    def test_nothing_to_do_again(self):
        book = book_of(("out", "argo", 5))
        self.assertIs(refusal(book.again), errors.NoBack)
        self.assertEqual(book.back(), ("out", "argo", 5))

    def test_a_deed_done_lets_go_what_could_be_done_again(self):
        book = book_of(*SHORT)
        book.back()
        book.back()
        book.do(("settle", "argo", 2, 2))
        self.assertIs(refusal(book.again), errors.NoBack)
        self.assertEqual(book.deeds(), SHORT[:-2] + [("settle", "argo", 2, 2)])
        self.assertEqual(book.back(), ("settle", "argo", 2, 2))
        self.assertEqual(book.again(), ("settle", "argo", 2, 2))

    def test_the_same_deed_done_lets_go_as_well(self):
        book = book_of(*SHORT)
        book.back()
        book.back()
        book.do(SHORT[-2])
        self.assertIs(refusal(book.again), errors.NoBack)

    def test_a_refused_deed_lets_nothing_go(self):
        book = book_of(*SHORT)
        book.back()
        book.back()
        for deed in [("out", "Argo", 5), ("sail", "argo", 1), ("settle", "argo", 99, 1), ("sail", "elk", 5)]:
            self.assertIsNotNone(refusal(book.do, deed))
        self.assertEqual(book.deeds(), SHORT[:-2])
        self.assertEqual([book.again(), book.again()], SHORT[-2:])

    def test_looks_let_nothing_go(self):
        book = book_of(*SHORT)
        for turn in range(4):
            book.back()
        whole(book)
        self.assertEqual([book.again() for turn in range(4)], SHORT[-4:])

    def test_numbers_taken_back_are_given_again(self):
        book = book_of(("out", "argo", 5), ("hire", "argo", 5))
        book.back()
        book.do(("rescue", "argo", (0,), 5))
        self.assertEqual([claim[:2] for claim in book.claims("argo")], [(1, "rescue")])

    def test_to_and_fro_against_books_told_the_same_deeds(self):
        for seed in [241, 242, 243]:
            chance, own, book, ahead = Random(seed), OwnBook(), Book(), []
            for turn in range(150):
                step = chance.choice(["do", "do", "do", "back", "back", "again"])
                if step == "do":
                    deed = some_deed(chance, own, NAMES[:2])
                    refused = told(own.do, deed)
                    self.assertEqual(told(book.do, deed), refused)
                    ahead = ahead if refused else []
                elif step == "back" and own.kept:
                    ahead.append(own.kept[-1])
                    self.assertEqual(book.back(), ahead[-1])
                    own = OwnBook(own.kept[:-1])
                elif step == "again" and ahead:
                    self.assertEqual(book.again(), ahead[-1])
                    own.do(ahead.pop())
                elif step == "again":
                    self.assertIs(refusal(book.again), errors.NoBack)
                self.assertEqual(book.deeds(), own.kept)
                if turn % 10 == 0:
                    self.assertEqual(asked(book), asked(own))

    def test_long_books(self):
        book = Book()
        for turn in range(60):
            for deed in [("out", "argo", 10), ("rescue", "argo", (0,), 11), ("sail", "argo", 1), ("hire", "argo", 2),
                         ("sail", "argo", 1), ("land", "argo"), ("settle", "argo", 1 + 2 * turn, 3)]:
                book.do(deed)
        deeds, answers = book.deeds(), asked(book)
        self.assertEqual(len(deeds), 420)
        for turn in range(5):
            self.assertEqual([book.back() for deed in deeds], deeds[::-1])
            self.assertEqual((book.deeds(), book.ships()), ([], []))
            self.assertEqual([book.again() for deed in deeds], deeds)
            self.assertEqual(asked(book), answers)

    def test_very_long_books(self):
        book = book_of(("out", "argo", 10))
        for turn in range(5000):
            book.do(("sail", "argo", 1 + turn % 3))
        deeds, day = book.deeds(), book.day("argo")
        for turn in range(5001):
            book.back()
        for turn in range(5001):
            book.again()
        self.assertEqual((book.deeds(), book.day("argo")), (deeds, day))


class ToldAgain(SoonCase):
    def test_a_book_told_the_deeds_of_another(self):
        for seed in [251, 252, 253]:
            book, own = some_book(seed, 60)
            other = book_of(*book.deeds())
            self.assertEqual(whole(other), whole(book))

    def test_nothing_can_be_done_again_in_it(self):
        book = book_of(*SHORT)
        book.back()
        other = book_of(*book.deeds())
        self.assertIs(refusal(other.again), errors.NoBack)
        self.assertEqual(asked(other), asked(book))
        self.assertEqual(book.again(), SHORT[-1])


class Twins(SoonCase):
    def test_like_in_all_that_can_be_asked(self):
        for seed in [261, 262]:
            book, own = some_book(seed, 50)
            for turn in range(3):
                book.back()
            twin = book.twin()
            self.assertIsInstance(twin, Book)
            self.assertEqual(whole(twin), whole(book))

    def test_what_can_be_taken_back_and_done_again(self):
        book = book_of(*SHORT)
        book.back()
        book.back()
        twin = book.twin()
        self.assertEqual([twin.again(), twin.again()], SHORT[-2:])
        self.assertIs(refusal(twin.again), errors.NoBack)
        self.assertEqual([twin.back() for deed in SHORT], SHORT[::-1])
        self.assertIs(refusal(twin.back), errors.NoBack)

    def test_each_goes_its_own_way(self):
        changes = [lambda book: book.do(("sail", "argo", 3)), lambda book: book.do(("hire", "argo", 2)),
                   lambda book: book.do(("lose", "argo", 0, 2)), lambda book: book.do(("load", "argo", 3, 5, 5)),
                   lambda book: book.do(("land", "argo")), lambda book: book.do(("out", "cyd", 5)),
                   lambda book: book.back(), lambda book: book.again(), lambda book: book.do(("land", "bo"))]
        for change in changes:
            for swap in [False, True]:
                book = book_of(*SHORT, ("sail", "bo", 1))
                book.back()
                pair = [book, book.twin()]
                one, other = pair[::-1] if swap else pair
                before = whole(other)
                change(one)
                self.assertNotEqual(whole(one), before)
                self.assertEqual(whole(other), before)
                after = whole(one)
                for step in changes[:4]:
                    step(other)
                self.assertEqual(whole(one), after)

    def test_twins_of_twins(self):
        book = book_of(*SHORT)
        twin = book.twin()
        second = twin.twin()
        second.do(("sail", "argo", 1))
        twin.do(("sail", "argo", 2))
        book.do(("sail", "argo", 3))
        third = second.twin()
        third.back()
        self.assertEqual([each.day("argo") for each in [book, twin, second, third]], [7, 6, 5, 4])
        self.assertEqual([len(each.deeds()) for each in [book, twin, second, third]], [13, 13, 13, 12])

    def test_a_twin_of_an_empty_book(self):
        book = Book()
        twin = book.twin()
        twin.do(("out", "argo", 5))
        self.assertEqual((book.ships(), twin.ships()), ([], ["argo"]))


class Offers(SoonCase):
    def test_the_part_in_the_stand_behind_it(self):
        for seed in range(271, 277):
            book, own = some_book(seed, 40, 2)
            chance = Random(seed)
            for name in own.ships():
                for turn in range(6):
                    heap = some_heap(chance, own.funds(name) if own.is_away(name) else [0] * 6)
                    given = (name, heap, chance.choice([1, 20, 500]), chance.choice([0, 7, 1000]))
                    offered = told(book.offer, *given)
                    self.assertEqual(offered, told(own.offer, *given))
                    twin = book.twin()
                    refused = told(twin.do, ("lend",) + given)
                    self.assertEqual(offered, twin.stand(name)[0][-1][1] if refused is None else refused)

    def test_plain_ones(self):
        book = book_of(("out", "argo", 50), ("load", "argo", 2, 40, 10), ("lend", "argo", (0,), 40, 0))
        # Of one day with the other loan, so they share; a day later it goes ahead.
        self.assertEqual(book.offer("argo", (0,), 40, 0), (25, 1))
        self.assertEqual(book.offer("argo", (0, 2), 40, 0), (40, 1))
        book.do(("sail", "argo", 1))
        self.assertEqual(book.offer("argo", (0,), 40, 0), (40, 1))
        self.assertEqual(book.offer("argo", (0,), 40, 1), (202, 5))
        self.assertEqual(book.offer("argo", (0,), 40, 1000), (50, 1))

    def test_refusals_in_their_order(self):
        book = book_of(("out", "argo", 50))
        for given, refused in [
            (("bo", (), 0, -1), errors.NoShip), (("argo", (), 0, -1), errors.BadHeap),
            (("argo", (1, 0), 0, -1), errors.BadHeap), (("argo", (6,), 5, 5), errors.BadHeap),
            (("argo", (0, 1), 0, -1), errors.Worthless), (("argo", (0,), 0, -1), errors.BadSum),
            (("argo", (0,), 10 ** 9 + 1, 5), errors.BadSum), (("argo", (0,), 1, -1), errors.BadGain),
            (("argo", (0,), 1, 1001), errors.BadGain), (("argo", (0,), 1, 0), None),
            (("argo", (0,), 10 ** 9, 1000), None),
        ]:
            self.assertIs(refusal(book.offer, *given), refused, given)
        for turn in range(10):
            book.do(("hire", "argo", 1))
        self.assertIs(refusal(book.offer, "argo", (0,), 1, 0), errors.Crowded)
        self.assertIs(refusal(book.offer, "argo", (0,), 1, 1001), errors.BadGain)

    def test_nothing_is_lent(self):
        book = book_of(*SHORT)
        book.back()
        book.back()
        book.back()
        before = whole(book)
        for given in [((0,), 5, 5), ((0, 2), 50, 0), ((), 5, 5), ((3,), 5, 5)]:
            told(book.offer, "argo", *given)
            self.assertEqual(whole(book), before)
        self.assertEqual([book.again() for turn in range(3)], SHORT[-3:])
        book.do(("hire", "argo", 1))
        self.assertEqual([claim[0] for claim in book.claims("argo")][-1], 4)


class Kept(SoonCase):
    def test_lists_told_may_be_changed(self):
        book = book_of(*SHORT, ("rescue", "argo", (0,), 99))
        before = whole(book)
        for told_list in [book.ships(), book.deeds(), book.claims("argo"), book.landings("argo"), book.worths("argo"),
                          book.bill("argo"), book.table("argo"), *book.stand("argo")]:
            self.assertIs(type(told_list), list)
            told_list[0] = "mine"
            told_list.append("mine")
            self.assertEqual(whole(book), before)
            told_list.clear()
            self.assertEqual(whole(book), before)

    def test_lists_within_lists_told(self):
        book = book_of(*SHORT)
        before = whole(book)
        for within in list(book.landings("argo")[0]) + book.table("argo"):
            self.assertIs(type(within), list)
            within[0] = "mine"
            within.clear()
            self.assertEqual(whole(book), before)

    def test_what_the_stand_told_ahead_of_the_landing(self):
        book = book_of(*SHORT[:9])
        stand = book.stand("argo")
        book.do(("land", "argo"))
        landings = book.landings("argo")
        stand[0].clear()
        stand[1].clear()
        self.assertEqual(book.landings("argo"), landings)
        self.assertEqual(len(landings[0][0]), 3)

    def test_lists_told_of_a_twin(self):
        book = book_of(*SHORT)
        twin = book.twin()
        before = whole(book)
        for told_list in [twin.deeds(), twin.ships(), twin.worths("argo"), twin.landings("argo")[0][0]]:
            told_list.clear()
        self.assertEqual(whole(book), before)
        self.assertEqual(whole(twin), before)

    def test_kinds(self):
        book = book_of(*SHORT)
        for deed in book.deeds():
            self.assertIs(type(deed), tuple)
        for claim in book.claims("argo") + book.bill("argo"):
            self.assertIs(type(claim), tuple)
        self.assertTrue(all(type(pair) is tuple for pair in book.landings("argo") + book.stand("argo")[0]))


if __name__ == "__main__":
    unittest.main()
