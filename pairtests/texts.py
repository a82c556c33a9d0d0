"""Books written in lines, and read from them."""

from pairtests.books import checked, is_book
from pairtests.errors import BadText

FIGURES = "0123456789"


def line_of(words):
    return " ".join(words) + "\n"


def ban_line(ban):
    return line_of(["ban"] + [f"{thing}:{setting}" for thing, setting in ban])


def shown(book):
    checked(book)
    lines = [line_of(["settings"] + [str(level) for level in book[0]])]
    return "".join(lines + [ban_line(ban) for ban in book[1]])


def number_in(word):
    # No number of a book has two figures, so what is longer need not be told.
    if len(word) != 1 or word not in FIGURES:
        raise BadText("no number of a book is written so")
    return int(word)


def setting_in(word):
    return tuple([number_in(part) for part in word.split(":")])


def words_behind(name, line):
    words = line.split(" ")
    if words[0] != name:
        raise BadText("a line begins with another word")
    return words[1:]


def read(text):
    if not isinstance(text, str) or not text.endswith("\n"):
        raise BadText("this is no text of lines that are ended")
    lines = text.split("\n")[:-1]
    levels = tuple([number_in(word) for word in words_behind("settings", lines[0])])
    bans = [tuple([setting_in(word) for word in words_behind("ban", line)]) for line in lines[1:]]
    book = (levels, tuple(bans))
    if not is_book(book):
        raise BadText("what is written is no book")
    return book
