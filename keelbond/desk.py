"""The desk: a book that is asked and told by lines of text."""

from keelbond.book import Book
from keelbond.errors import BadText, KeelError
from keelbond.sheet import DEEDS, deed_text, heap_text, number_text, part_text, read_deed, read_line

# What stands behind the first word of each line that is no deed.
LOOKS = {
    "back": (),
    "again": (),
    "ships": (),
    "claims": ("name",),
    "stand": ("name",),
    "owners": ("name",),
    "paper": ("name", "number"),
    "offer": ("name", "heap", "number", "number"),
}


def listed(texts):
    if len(texts) == 0:
        return "none"
    return ", ".join(texts)


def ship_text(book, name):
    return " ".join([name, "sea" if book.at_sea(name) else "home", number_text(book.day(name))])


def claim_text(number, word, moment, due):
    return " ".join([number_text(number), word, number_text(moment), part_text(due)])


def paid_text(number, part):
    return number_text(number) + " " + part_text(part)


def paper_text(heap):
    if heap is None:
        return "none"
    if heap == ():
        return "-"
    return heap_text(heap)


def ships_answer(book):
    return listed([ship_text(book, name) for name in book.ships()])


def claims_answer(book, name):
    return listed([claim_text(number, word, moment, due) for number, word, moment, due, touched in book.claims(name)])


def stand_answer(book, name):
    return listed([paid_text(number, part) for number, part in book.stand(name)[0]])


def owners_answer(book, name):
    return " ".join([part_text(part) for part in book.stand(name)[1]])


def look_answer(book, look):
    word = look[0]
    if word == "back":
        return deed_text(book.back())
    if word == "again":
        return deed_text(book.again())
    if word == "ships":
        return ships_answer(book)
    if word == "claims":
        return claims_answer(book, look[1])
    if word == "stand":
        return stand_answer(book, look[1])
    if word == "owners":
        return owners_answer(book, look[1])
    if word == "paper":
        return paper_text(book.paper(look[1], look[2]))
    return part_text(book.offer(look[1], look[2], look[3], look[4]))


def answer(book, line):
    if line.partition(" ")[0] in DEEDS:
        book.do(read_deed(line))
        return "done"
    return look_answer(book, read_line(line, dict(LOOKS)))


class Desk:
    def __init__(self):
        self.kept_book = Book()

    def say(self, line):
        try:
            return answer(self.kept_book, line)
        except BadText:
            return "no line"
        except KeelError as refusal:
            return "refused " + refusal.called()

    def book(self):
        return self.kept_book.twin()
