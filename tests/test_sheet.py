import unittest
from fractions import Fraction
from itertools import combinations
from random import Random

from cases import LONG, SoonCase, part_of
from keelbond.book import Book
from keelbond.errors import BadText, NoBack
from keelbond.sheet import deed_text, heap_text, page_text, part_text, read_deed, read_page
from own_book import NAMES, OwnBook, asked, some_deed, tell, told, whole

MOST = 10 ** 13 - 1

# Each deed beside its line.
LINES = [
    (("out", "argo", 1000), "out argo 1000"),
    (("load", "argo", 2, 40, 0), "load argo 2 40 0"),
    (("sail", "argo", 12), "sail argo 12"),
    (("hire", "a", 7), "hire a 7"),
    (("dismiss", "abcdefgh", 3), "dismiss abcdefgh 3"),
    (("lend", "argo", (0, 2, 4), 90, 10), "lend argo 024 90 10"),
    (("lend", "argo", (0,), 0, 0), "lend argo 0 0 0"),
    (("rescue", "argo", (0, 1, 2, 3, 4, 5), 30), "rescue argo 012345 30"),
    (("lose", "argo", 0, 5), "lose argo 0 5"),
    (("land", "argo"), "land argo"),
    (("settle", "argo", 2, 17), "settle argo 2 17"),
]
SIGNS = [chr(code) for code in range(ord(" "), ord("~") + 1)] + ["\n"]


def bad_at(test, read, text):
    """The value `at` of the refusal that a text meets with; the test fails where it meets with none."""
    with test.assertRaises(BadText, msg=repr(text)) as taken:
        read(text)
    return taken.exception.at


class Heaps(unittest.TestCase):
    def test_heaps(self):
        for heap, text in [((), ""), ((0,), "0"), ((5,), "5"), ((0, 2, 4), "024"), ((0, 1, 2, 3, 4, 5), "012345")]:
            self.assertEqual(heap_text(heap), text)


class Parts(unittest.TestCase):
    def test_parts(self):
        for part, text in [((0, 1), "0"), ((7, 1), "7"), ((-7, 1), "-7"), ((1, 2), "1/2"), ((-1, 2), "-1/2"),
                           ((10, 3), "10/3"), ((1, 10), "1/10"), ((100, 1), "100"), ((-5, 100003), "-5/100003")]:
            self.assertEqual(part_text(part), text)

    def test_large_ones(self):
        self.assertEqual(part_text((LONG, 1)), "1" + "0" * 39 + "7")
        self.assertEqual(part_text((-LONG, 10 ** 64)), "-1" + "0" * 39 + "7/1" + "0" * 64)
        for power in [63, 64, 65, 127, 128, 129, 192]:
            for more in [-1, 0, 1, 12345]:
                number = 10 ** power + more
                self.assertEqual(part_text((number, 1)), str(number))
                self.assertEqual(part_text((-number, 1)), str(-number))
                self.assertEqual(part_text((1, number)), "1/" + str(number))

    def test_numbers_longer_than_python_writes_at_once(self):
        self.assertEqual(part_text((10 ** 6000, 1)), "1" + "0" * 6000)
        self.assertEqual(part_text((-(10 ** 6000) - 42, 1)), "-1" + "0" * 5998 + "42")
        self.assertEqual(part_text((1, 10 ** 6000 - 1)), "1/" + "9" * 6000)
        self.assertEqual(part_text((7 * 10 ** 20000 // 9, 2)), "7" * 20000 + "/2")

    def test_any_parts(self):
        chance = Random(301)
        for turn in range(200):
            value = Fraction(chance.randint(-10 ** 90, 10 ** 90), chance.choice([1, chance.randint(1, 10 ** 70)]))
            self.assertEqual(part_text(part_of(value)), str(value))


class Deeds(SoonCase):
    def test_each_deed_written_and_read_back(self):
        for deed, line in LINES:
            self.assertEqual(deed_text(deed), line)
            self.assertEqual(read_deed(line), deed)
            self.assertIs(type(read_deed(line)), tuple)

    def test_the_heap_read_is_a_tuple(self):
        for size in range(1, 7):
            for heap in combinations(range(6), size):
                deed = ("lend", "argo", heap, 5, 6)
                self.assertEqual(read_deed(deed_text(deed)), deed)
                self.assertIs(type(read_deed(deed_text(deed))[2]), tuple)

    def test_what_a_book_would_refuse_is_not_asked(self):
        for deed, line in [
            (("out", "argo", 0), "out argo 0"), (("load", "argo", 9, 0, MOST), "load argo 9 0 9999999999999"),
            (("sail", "argo", MOST), "sail argo 9999999999999"), (("lose", "argo", 77, 0), "lose argo 77 0"),
            (("settle", "nobody", 0, 0), "settle nobody 0 0"), (("dismiss", "argo", 0), "dismiss argo 0"),
        ]:
            self.assertEqual((deed_text(deed), read_deed(line)), (line, deed))

    def test_numbers_of_1_to_13_figures(self):
        for figures in range(1, 14):
            for number in [10 ** (figures - 1), 10 ** figures - 1]:
                deed = ("load", "argo", number, number, number)
                self.assertEqual(read_deed(deed_text(deed)), deed)
        for number in ["00", "01", "007", "0" * 13, "-1", "-0", "+1", "1.", "1e3", "0x1", "1_0", "1,0", "", "a", "1/2",
                       "10000000000000", "1" * 14, "0" * 14, "1" * 100, "1" * 5000, "0b1", "1\n", "\n1", "1-", "--1"]:
            for line in [f"out argo {number}", f"load argo {number} 1 1", f"load argo 1 {number} 1",
                         f"load argo 1 1 {number}", f"lend argo 0 {number} 1", f"lend argo 0 1 {number}",
                         f"rescue argo 0 {number}", f"settle argo {number} 1", f"settle argo 1 {number}"]:
                self.assertEqual(bad_at(self, read_deed, line), 0)

    def test_heaps_that_are_none(self):
        for heap in ["", "6", "06", "60", "10", "021", "00", "0122", "554", "0123456", "0123455", "-", "-1", "a", "0a",
                     "()", "0,1", "(0,)", "7", "9", "01\n", "5" * 300]:
            self.assertEqual(bad_at(self, read_deed, f"lend argo {heap} 5 5"), 0)
            self.assertEqual(bad_at(self, read_deed, f"rescue argo {heap} 5"), 0)
        for line in ["lend argo 5 5", "rescue argo 5"]:
            self.assertEqual(bad_at(self, read_deed, line), 0)

    def test_names_that_are_none(self):
        for name in ["", "Argo", "argonauts", "argo1", "ar-go", "argo\n", "\nargo", "1", "_", "~"]:
            for line in [f"out {name} 5", f"land {name}", f"lend {name} 0 5 5"]:
                self.assertEqual(bad_at(self, read_deed, line), 0)

    def test_words_too_few_or_too_many(self):
        for deed, line in LINES:
            words = line.split(" ")
            for count in range(len(words)):
                self.assertEqual(bad_at(self, read_deed, " ".join(words[:count])), 0)
            for more in ["0", "argo", "5"]:
                self.assertEqual(bad_at(self, read_deed, line + " " + more), 0)
                self.assertEqual(bad_at(self, read_deed, more + " " + line), 0)

    def test_blanks_and_line_feeds(self):
        for deed, line in LINES:
            for text in [line + " ", " " + line, line + "\n", "\n" + line, line.replace(" ", "  ", 1), line + "\n\n",
                         line.replace(" ", "\n"), line.replace(" ", ""), line.replace(" ", "  "),
                         line.replace(" ", "\n", 1), line + "\n" + line]:
                self.assertEqual(bad_at(self, read_deed, text), 0)

    def test_words_of_no_deed(self):
        for line in ["", " ", "\n", "Out argo 5", "OUT argo 5", "go argo 5", "argo out 5", "out", "outargo 5", "back",
                     "again", "ships", "claims argo", "stand argo", "paper argo 1", "offer argo 0 5 5", "land"]:
            self.assertEqual(bad_at(self, read_deed, line), 0)

    def test_a_sign_more_or_another_one(self):
        # Just what deed_text writes of what is read is read: so each line that is read is the writing of its deed.
        read = 0
        for deed, line in LINES:
            for place in range(len(line) + 1):
                for sign in SIGNS:
                    for text in [line[:place] + sign + line[place:], line[:place] + sign + line[place + 1:]]:
                        try:
                            found = read_deed(text)
                        except BadText as refusal:
                            self.assertEqual(refusal.at, 0)
                        else:
                            read += 1
                            self.assertEqual(deed_text(found), text)
        self.assertGreater(read, len(LINES) * 20)

    def test_a_sign_less(self):
        for deed, line in LINES:
            for place in range(len(line)):
                text = line[:place] + line[place + 1:]
                found = told(read_deed, text)
                if found != "refused BadText":
                    self.assertEqual(deed_text(found), text)


class Pages(SoonCase):
    DEEDS = [("out", "argo", 50), ("load", "argo", 2, 40, 10), ("sail", "argo", 3), ("lend", "argo", (0, 2), 90, 10),
             ("land", "argo"), ("settle", "argo", 1, 5)]
    PAGE = "out argo 50\nload argo 2 40 10\nsail argo 3\nlend argo 02 90 10\nland argo\nsettle argo 1 5\n"

    def book(self):
        return tell(Book(), self.DEEDS)

    def bad(self, text):
        return bad_at(self, read_page, text)

    def test_written(self):
        self.assertEqual(page_text(self.book()), self.PAGE)

    def test_read(self):
        book = read_page(self.PAGE)
        self.assertIsInstance(book, Book)
        self.assertEqual(book.deeds(), self.DEEDS)
        self.assertEqual(whole(book), whole(self.book()))

    def test_the_page_of_no_deeds(self):
        self.assertEqual(page_text(Book()), "")
        book = read_page("")
        self.assertEqual((book.deeds(), book.ships()), ([], []))

    def test_what_can_be_done_again_is_not_written(self):
        book = self.book()
        book.back()
        self.assertEqual(page_text(book), self.PAGE.replace("settle argo 1 5\n", ""))
        self.assertRaises(NoBack, read_page(page_text(book)).again)
        self.assertEqual(book.again(), ("settle", "argo", 1, 5))

    def test_writing_and_reading_change_nothing(self):
        book = self.book()
        book.back()
        before = whole(book)
        other = read_page(page_text(book))
        other.do(("out", "argo", 5))
        self.assertEqual(whole(book), before)

    def test_refused_deeds_are_not_written(self):
        book = self.book()
        told(book.do, ("sail", "argo", 1))
        self.assertEqual(page_text(book), self.PAGE)

    def test_a_line_spoilt(self):
        lines = self.PAGE.split("\n")[:-1]
        for at, line in enumerate(lines):
            for spoilt in ["", " ", line + " ", " " + line, line + " 1", line.upper(), line[:-1] + "-", "go", line[1:],
                           line.replace(" ", "  ", 1), line.replace("argo", "Argo"), "back", "ships"]:
                text = "\n".join(lines[:at] + [spoilt] + lines[at + 1:]) + "\n"
                self.assertEqual(self.bad(text), at)

    def test_two_lines_spoilt(self):
        self.assertEqual(self.bad("out argo 50\nsail argo 0\nsail\n"), 1)
        self.assertEqual(self.bad("out argo 50\nsail\nsail argo 0\n"), 1)
        self.assertEqual(self.bad("out argo 50\nsail\nsail argo 1"), 1)
        self.assertEqual(self.bad("out argo 50\nsail argo 0\nsail"), 1)

    def test_a_line_left_out(self):
        self.assertEqual(self.bad(self.PAGE.replace("out argo 50\n", "")), 0)
        self.assertEqual(self.bad(self.PAGE.replace("load argo 2 40 10\n", "")), 2)
        self.assertEqual(self.bad(self.PAGE.replace("lend argo 02 90 10\n", "")), 4)
        self.assertEqual(self.bad(self.PAGE.replace("land argo\n", "")), 4)
        self.assertEqual(read_page(self.PAGE.replace("sail argo 3\n", "")).day("argo"), 0)

    def test_a_line_twice(self):
        for line, at in [("out argo 50\n", 1), ("load argo 2 40 10\n", 2), ("land argo\n", 5)]:
            self.assertEqual(self.bad(self.PAGE.replace(line, line * 2)), at)
        self.assertEqual(read_page(self.PAGE.replace("sail argo 3\n", "sail argo 3\n" * 2)).day("argo"), 6)

    def test_an_empty_line(self):
        for at in range(7):
            lines = self.PAGE.split("\n")
            lines.insert(at, "")
            self.assertEqual(self.bad("\n".join(lines)), at)
        self.assertEqual(self.bad("\n"), 0)
        self.assertEqual(self.bad("\n\n"), 0)
        self.assertEqual(self.bad("\n" + self.PAGE), 0)

    def test_a_deed_that_is_refused(self):
        for line in ["sail argo 1", "settle argo 1 999", "settle argo 2 1", "out bo 0", "land argo", "sail bo 1"]:
            self.assertEqual(self.bad(self.PAGE + line + "\n"), 6)
            self.assertEqual(self.bad(self.PAGE + line + "\n" + "out argo 5\n"), 6)
        self.assertEqual(self.bad("sail argo 1\n" + self.PAGE), 0)

    def test_the_last_line_feed(self):
        self.assertEqual(self.bad(self.PAGE[:-1]), 5)
        self.assertEqual(self.bad(self.PAGE + "\n"), 6)
        self.assertEqual(self.bad(self.PAGE + " "), 6)
        self.assertEqual(self.bad(self.PAGE + "out argo 5"), 6)
        self.assertEqual(self.bad("out argo 50"), 0)
        self.assertEqual(self.bad("no deed"), 0)
        self.assertEqual(self.bad(" "), 0)

    def test_any_sign_changed(self):
        # A page that is read is the writing of the book that it is read to.
        for place in range(len(self.PAGE)):
            for sign in ["", "\n", " ", "0", "1", "a", "-", self.PAGE[place] * 2]:
                text = self.PAGE[:place] + sign + self.PAGE[place + 1:]
                found = told(read_page, text)
                if found != "refused BadText":
                    self.assertEqual(page_text(found), text)
                else:
                    ahead = "".join(line + "\n" for line in text.split("\n")[:self.bad(text)])
                    self.assertEqual(page_text(read_page(ahead)), ahead)

    def test_books_of_any_deeds(self):
        for seed in range(311, 316):
            chance, own = Random(seed), OwnBook()
            for turn in range(60):
                told(own.do, some_deed(chance, own, NAMES[:4]))
            page = page_text(tell(Book(), own.kept))
            self.assertEqual(page.count("\n"), len(own.kept))
            self.assertEqual(asked(read_page(page)), asked(own))
            self.assertEqual(page_text(read_page(page)), page)

    def test_long_pages(self):
        page = "out argo 50\n" + "sail argo 7\n" * 3000
        self.assertEqual(read_page(page).day("argo"), 21000)
        self.assertEqual(self.bad(page + "sail argo 0\n"), 3001)


if __name__ == "__main__":
    unittest.main()
