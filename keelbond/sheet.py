"""Deeds and pages as texts."""

from keelbond.book import Book
from keelbond.errors import BadText, KeelError
from keelbond.ranks import is_name
from keelbond.touch import is_heap

# What stands behind each deed's word.
DEEDS = {
    "out": ("name", "number"),
    "load": ("name", "number", "number", "number"),
    "sail": ("name", "number"),
    "hire": ("name", "number"),
    "dismiss": ("name", "number"),
    "lend": ("name", "heap", "number", "number"),
    "rescue": ("name", "heap", "number"),
    "lose": ("name", "number", "number"),
    "land": ("name",),
    "settle": ("name", "number", "number"),
}
FIGURES = "0123456789"
PLACES = "012345"
MOST_FIGURES = 13


# Written piece by piece, as Python refuses to write very long numbers at once.
def number_text(number):
    left = abs(number)
    written = ""
    while left >= 10 ** 64:
        written = str(left % 10 ** 64).zfill(64) + written
        left = left // 10 ** 64
    sign = "-" if number < 0 else ""
    return sign + str(left) + written


def heap_text(heap):
    return "".join([str(place) for place in heap])


def part_text(part):
    if part[1] == 1:
        return number_text(part[0])
    return number_text(part[0]) + "/" + number_text(part[1])


def word_text(word):
    if isinstance(word, str):
        return word
    if isinstance(word, tuple):
        return heap_text(word)
    return number_text(word)


def deed_text(deed):
    return " ".join([word_text(word) for word in deed])


def consists_of(word, signs):
    return len(word) > 0 and all([sign in signs for sign in word])


def read_name(word):
    if not is_name(word):
        raise BadText(0)
    return word


def read_number(word):
    if not consists_of(word, FIGURES) or len(word) > MOST_FIGURES:
        raise BadText(0)
    if word[0] == "0" and word != "0":
        raise BadText(0)
    return int(word)


def read_heap(word):
    if not consists_of(word, PLACES):
        raise BadText(0)
    heap = tuple([int(sign) for sign in word])
    if not is_heap(len(PLACES), heap):
        raise BadText(0)
    return heap


def read_word(kind, word):
    if kind == "name":
        return read_name(word)
    if kind == "heap":
        return read_heap(word)
    return read_number(word)


# A line of words of the forms told, a dict as the one above, is read to a tuple: its first word, and what the others
# write.
def read_line(line, forms):
    words = line.split(" ")
    form = forms.get(words[0])
    if form is None or len(words) != len(form) + 1:
        raise BadText(0)
    return tuple(words[:1] + [read_word(kind, word) for kind, word in zip(form, words[1:])])


def read_deed(line):
    return read_line(line, dict(DEEDS))


def page_text(book):
    return "".join([deed_text(deed) + "\n" for deed in book.deeds()])


def read_page(text):
    lines = text.split("\n")
    book = Book()
    for at, line in enumerate(lines[:-1]):
        try:
            book.do(read_deed(line))
        except KeelError:
            raise BadText(at) from None
    # What stands behind the last line feed is a line without one.
    if lines[-1] != "":
        raise BadText(len(lines) - 1)
    return book
