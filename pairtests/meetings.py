"""The meetings of a strength, which of them are possible, and the whole bans."""

from pairtests.books import MOST_IN_MEETING, all_tests, checked, is_whole
from pairtests.errors import BadStrength


def most_strength(book):
    return min(MOST_IN_MEETING, len(book[0]))


def check_book_and_strength(book, strength):
    # The book goes first: of a thing that is no book, no strength can be told.
    checked(book)
    if not is_whole(strength, 1, most_strength(book)):
        raise BadStrength("this is no strength for the book")


def settings_of(levels):
    pairs = []
    for thing, level in enumerate(levels):
        pairs.extend([(thing, setting) for setting in range(level)])
    return pairs


def is_behind(pair, meeting):
    return len(meeting) == 0 or meeting[-1][0] < pair[0]


def meetings_among(pairs, many):
    # Rising pairs give rising meetings, as each step keeps the order of the step ahead of it.
    meetings = [()]
    for step in range(many):
        longer = []
        for meeting in meetings:
            longer.extend([meeting + (pair,) for pair in pairs if is_behind(pair, meeting)])
        meetings = longer
    return meetings


def meetings_of(test, strength):
    return meetings_among(list(enumerate(test)), strength)


def met_by(tests, strength):
    met = {}
    for test in tests:
        for meeting in meetings_of(test, strength):
            met[meeting] = True
    return met


def all_meetings(book, strength):
    check_book_and_strength(book, strength)
    return meetings_among(settings_of(book[0]), strength)


def possible(book, strength):
    check_book_and_strength(book, strength)
    return sorted(met_by(all_tests(book), strength))


def impossible(book, strength):
    check_book_and_strength(book, strength)
    met = met_by(all_tests(book), strength)
    return [meeting for meeting in all_meetings(book, strength) if meeting not in met]


def lies_in(part, meeting):
    return all([pair in meeting for pair in part])


def holds_any(meeting, parts):
    return any([lies_in(part, meeting) for part in parts])


def whole_bans(book):
    checked(book)
    whole = []
    for many in range(1, most_strength(book) + 1):
        # If an impossible meeting lies in another, a whole ban does so too: the whole ones so far are enough.
        whole = whole + [meeting for meeting in impossible(book, many) if not holds_any(meeting, whole)]
    return whole
