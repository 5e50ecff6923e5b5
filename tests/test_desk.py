import unittest
from random import Random

from cases import SoonCase, value_of
from keelbond.book import Book
from keelbond.desk import Desk, paper_text
from keelbond.sheet import deed_text, page_text, read_deed
from own_book import NAMES, OwnBook, some_deed, told, whole

VOYAGE = """out argo 50
load argo 2 40 10
hire argo 3
sail argo 4
lend argo 02 90 10
rescue argo 2 30
lose argo 0 5""".split("\n")
NO_LINES = [
    "", " ", "\n", "hello", "done", "none", "Ships", "ships ", " ships", "ships argo", "back argo", "again 1", "back\n",
    "claims", "claims ", "claims argo bo", "claims  argo", "claims Argo", "claims argonauts", "claims 1",
    "claims argo ", " claims argo", "claims argo\n", "claim argo", "CLAIMS argo",
    "stand", "stand ", "stand Argo", "stand argo 1", "stand argo ", "stand  argo", "stand argo1",
    "owners", "owners ", "owners Argo", "owners argo 1", "owner argo", "owners argo ",
    "paper", "paper argo", "paper argo ", "paper 1", "paper Argo 1", "paper argo 01", "paper argo -1", "paper argo 1 1",
    "paper argo 10000000000000", "paper argo x", "paper argo  1", "paper argo 1\n", "paper argo 00",
    "offer", "offer argo", "offer argo 0", "offer argo 0 5", "offer argo 0 5 5 5", "offer argo 10 5 5",
    "offer argo 6 5 5", "offer argo 00 5 5", "offer argo  5 5", "offer argo - 5 5", "offer argo 0 05 5",
    "offer argo 0 5 05", "offer argo 0 -5 5", "offer argo 0 5 10000000000000", "offer Argo 0 5 5", "offer argo x 5 5",
    "out", "out argo", "out Argo 5", "out argo 05", "out argo -5", "out argo 5 5", " out argo 5", "out argo 5 ",
    "out argo 5\n", "out argo 5\nout bo 5", "load argo 2 40", "sail argo", "hire argo", "dismiss argo", "lend argo 5 5",
    "lend argo 20 5 5", "rescue argo 5", "lose argo 5", "land", "land argo 1", "settle argo 1", "settle argo 1 1 1",
    "table argo", "bill argo", "worths argo", "landings argo", "day argo", "deeds", "twin", "page",
]


def desk_of(*lines):
    desk = Desk()
    for line in lines:
        desk.say(line)
    return desk


class DeskCase(SoonCase):
    def says(self, desk, pairs):
        for line, answer in pairs:
            told_text = desk.say(line)
            self.assertEqual((line, told_text), (line, answer))
            self.assertIs(type(told_text), str)


class Rows(DeskCase):
    def test_nothing_to_tell(self):
        self.says(Desk(), [("ships", "none"), ("back", "refused noback"), ("again", "refused noback")])
        self.says(desk_of("out argo 50"), [
            ("claims argo", "none"), ("stand argo", "none"), ("owners argo", "50 0 0 0 0 0"),
        ])
        self.says(desk_of("out argo 50", "land argo"), [("claims argo", "none"), ("ships", "argo home 0")])

    def test_each_deed(self):
        self.says(Desk(), [(line, "done") for line in VOYAGE + ["dismiss argo 1", "land argo", "settle argo 2 3"]])

    def test_back_and_again(self):
        desk = desk_of(*VOYAGE)
        self.says(desk, [("back", line) for line in VOYAGE[::-1]] + [("back", "refused noback")])
        self.says(desk, [("ships", "none")])
        self.says(desk, [("again", line) for line in VOYAGE] + [("again", "refused noback")])
        self.says(desk, [("ships", "argo sea 4")])

    def test_ships(self):
        self.says(desk_of("out bo 5"), [("ships", "bo sea 0")])
        desk = desk_of("out bo 5", "out argo 5", "sail argo 12", "land bo", "out cyd 9", "sail cyd 1000")
        self.says(desk, [("ships", "bo home 0, argo sea 12, cyd sea 1000")])

    def test_claims(self):
        desk = desk_of(*VOYAGE)
        self.says(desk, [("claims argo", "1 wage 0 12, 2 loan 4 187/2, 3 rescue 4 30")])
        self.says(desk_of(*VOYAGE[:3]), [("claims argo", "1 wage 0 0")])
        # Of 83 that the wage leaves, the loan gets 15521/247 and the rescue 4980/247.
        self.says(desk, [("land argo", "done"), ("claims argo", "2 old 1 30, 3 old 1 9"),
                         ("settle argo 2 30", "done"), ("claims argo", "3 old 1 9"),
                         ("settle argo 3 9", "done"), ("claims argo", "none")])

    def test_stand(self):
        self.says(desk_of(*VOYAGE), [("stand argo", "1 12, 2 15521/247, 3 4980/247")])
        self.says(desk_of("out argo 5", "rescue argo 0 9"), [("stand argo", "1 5")])

    def test_owners(self):
        self.says(desk_of(*VOYAGE), [("owners argo", "0 0 0 0 0 0")])
        self.says(desk_of("out argo 50", "load argo 2 40 10", "load argo 5 7 0"), [("owners argo", "50 10 40 0 0 7")])
        desk = desk_of("out argo 50", "load argo 2 40 10", "lend argo 0 1 1")
        self.says(desk, [("stand argo", "1 101/100"), ("owners argo", "4899/100 10 40 0 0 0")])

    def test_papers(self):
        self.says(desk_of(*VOYAGE), [("paper argo 1", "none"), ("paper argo 2", "012"), ("paper argo 3", "012"),
                                     ("paper argo 4", "refused noclaim"), ("paper argo 0", "refused noclaim"),
                                     ("paper argo 9999999999999", "refused noclaim")])
        self.says(desk_of("out argo 5", "load argo 2 7 1", "rescue argo 2 9"), [("paper argo 1", "2")])

    def test_papers_as_texts(self):
        for heap, text in [(None, "none"), ((), "-"), ((0,), "0"), ((1, 3, 5), "135")]:
            self.assertEqual(paper_text(heap), text)

    def test_offers(self):
        desk = desk_of("out argo 50", "load argo 2 40 10", "lend argo 0 40 0")
        self.says(desk, [("offer argo 0 40 0", "25"), ("offer argo 02 40 0", "40"), ("offer argo 012 7 3", "721/100"),
                         ("claims argo", "1 loan 0 40"), ("again", "refused noback"), ("back", "lend argo 0 40 0")])

    def test_offers_change_nothing(self):
        desk = desk_of(*VOYAGE, "back", "back")
        before = whole(desk.book())
        for line in ["offer argo 0 40 0", "offer argo 5 40 0", "offer bo 0 40 0", "offer argo 0 0 0"]:
            desk.say(line)
        self.assertEqual(whole(desk.book()), before)
        self.says(desk, [("again", VOYAGE[-2]), ("again", VOYAGE[-1])])


class Refused(DeskCase):
    def test_each_kind(self):
        desk = desk_of(*VOYAGE, "out home 9", "rescue home 0 20", "land home")
        self.says(desk, [
            ("sail bo 1", "refused noship"), ("out argo 5", "refused atsea"), ("settle argo 1 1", "refused atsea"),
            ("sail home 1", "refused athome"), ("load argo 3 0 0", "refused badworth"),
            ("out bo 0", "refused badworth"), ("lose argo 0 46", "refused badworth"),
            ("load argo 6 1 1", "refused badlot"), ("load argo 2 1 1", "refused laden"),
            ("sail argo 0", "refused baddays"), ("hire argo 0", "refused badsum"),
            ("lend argo 0 0 0", "refused badsum"), ("rescue argo 0 0", "refused badsum"),
            ("settle home 1 12", "refused badsum"), ("lend argo 0 5 1001", "refused badgain"),
            ("lend argo 3 5 5", "refused worthless"), ("rescue argo 05 5", "refused worthless"),
            ("lose argo 6 1", "refused badfund"), ("dismiss argo 9", "refused noclaim"),
            ("settle home 9 1", "refused noclaim"), ("dismiss argo 2", "refused nothired"),
        ])

    def test_full_and_crowded(self):
        desk = desk_of("out a 5", "out b 5", "out c 5", "out d 5", *["hire a 1"] * 10)
        self.says(desk, [("out e 5", "refused full"), ("hire a 1", "refused crowded"),
                         ("lend a 0 1 1", "refused crowded"), ("rescue a 0 1", "refused crowded"),
                         ("offer a 0 1 1", "refused crowded")])

    def test_looks(self):
        desk = desk_of("out home 9", "rescue home 0 20", "land home")
        for word in ["claims", "stand", "owners"]:
            self.says(desk, [(word + " argo", "refused noship")])
        self.says(desk, [("paper argo 1", "refused noship"), ("offer argo 0 5 5", "refused noship"),
                         ("stand home", "refused athome"), ("owners home", "refused athome"),
                         ("paper home 1", "refused athome"), ("paper home 9", "refused athome"),
                         ("offer home 0 0 0", "refused athome"), ("claims home", "1 old 1 11")])

    def test_offers(self):
        desk = desk_of("out argo 50")
        self.says(desk, [("offer argo 1 0 1001", "refused worthless"), ("offer argo 0 0 1001", "refused badsum"),
                         ("offer argo 0 1 1001", "refused badgain"), ("offer argo 0 1 1000", "11")])

    def test_what_is_refused_leaves_all_as_it_was(self):
        desk = desk_of(*VOYAGE, "back")
        before = whole(desk.book())
        for line in ["sail bo 1", "out argo 5", "load argo 2 1 1", "lose argo 0 51", "hire argo 0", "paper argo 9"]:
            self.assertEqual(desk.say(line)[:8], "refused ")
            self.assertEqual(whole(desk.book()), before)


class NoLines(DeskCase):
    def test_other_lines(self):
        for desk in [Desk(), desk_of(*VOYAGE, "back")]:
            before = whole(desk.book())
            self.says(desk, [(line, "no line") for line in NO_LINES])
            self.assertEqual(whole(desk.book()), before)

    def test_a_sign_more(self):
        for line in ["back", "again", "ships", "claims argo", "stand argo", "owners argo", "paper argo 1",
                     "offer argo 0 5 5"]:
            for sign in " \n-AZ_/.~":
                for place in range(len(line) + 1):
                    desk = desk_of(*VOYAGE)
                    self.says(desk, [(line[:place] + sign + line[place:], "no line")])


class Books(DeskCase):
    def test_a_twin_of_its_book(self):
        desk = desk_of(*VOYAGE, "back", "back")
        book = desk.book()
        self.assertIsInstance(book, Book)
        self.assertEqual(book.deeds(), [read_deed(line) for line in VOYAGE[:-2]])
        self.assertEqual(book.again(), read_deed(VOYAGE[-2]))

    def test_it_may_be_changed_with_no_effect_on_the_desk(self):
        desk = desk_of(*VOYAGE)
        before = whole(desk.book())
        book = desk.book()
        book.do(("land", "argo"))
        book.do(("out", "bo", 5))
        self.assertEqual(whole(desk.book()), before)
        while book.deeds():
            book.back()
        self.assertEqual(whole(desk.book()), before)
        self.says(desk, [("ships", "argo sea 4"), ("again", "refused noback")])

    def test_the_desk_may_go_on_with_no_effect_on_it(self):
        desk = desk_of(*VOYAGE)
        book = desk.book()
        before = whole(book)
        for line in ["land argo", "out bo 5", "back", "back"]:
            desk.say(line)
        self.assertEqual(whole(book), before)

    def test_two_desks_have_nothing_in_common(self):
        one, other = Desk(), Desk()
        one.say("out argo 5")
        self.says(other, [("ships", "none"), ("back", "refused noback"), ("sail argo 1", "refused noship")])
        self.says(one, [("ships", "argo sea 0")])

    def test_an_empty_one(self):
        self.assertEqual((Desk().book().ships(), Desk().book().deeds()), ([], []))


class AnyDeeds(DeskCase):
    def figures(self, part):
        return str(value_of(part))

    def expected(self, own, name):
        """What three looks at a ship at sea should answer, by the tests' own book."""
        claims = ", ".join(f"{number} {word} {moment} {self.figures(due)}"
                           for number, word, moment, due, touched in own.claims(name))
        numbers, owners = own.stand(name)
        stand = ", ".join(f"{number} {self.figures(part)}" for number, part in numbers)
        return [("claims " + name, claims or "none"), ("stand " + name, stand or "none"),
                ("owners " + name, " ".join(self.figures(part) for part in owners))]

    def test_lines_of_any_deeds(self):
        for seed in range(321, 325):
            chance, own, desk = Random(seed), OwnBook(), Desk()
            for turn in range(60):
                deed = some_deed(chance, own, NAMES[:3])
                line = deed_text(deed)
                if told(read_deed, line) != deed:
                    self.says(desk, [(line, "no line")])
                    continue
                refused = told(own.do, deed)
                self.says(desk, [(line, refused.lower() if refused else "done")])
                if deed[1] in own.ships() and own.is_away(deed[1]):
                    self.says(desk, self.expected(own, deed[1]))
            self.assertEqual(desk.book().deeds(), own.kept)
            self.assertEqual(page_text(desk.book()), "".join(deed_text(deed) + "\n" for deed in own.kept))
            ships = [f"{name} {'sea' if own.is_away(name) else 'home'} {own.day(name)}" for name in own.ships()]
            self.says(desk, [("ships", ", ".join(ships))])


if __name__ == "__main__":
    unittest.main()
