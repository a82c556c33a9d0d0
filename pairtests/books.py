"""Books, a tuple (levels, bans) each, and the tests of a book."""

from pairtests.errors import BadBook, BadTests

MOST_THINGS = 6
MOST_SETTINGS = 4
MOST_ROWS = 400
MOST_BANS = 12
MOST_IN_MEETING = 3


def is_whole(thing, least, most):
    # To Python True and False are whole numbers, to the document they are none.
    return isinstance(thing, int) and not isinstance(thing, bool) and least <= thing <= most


def is_tuple(thing, least, most):
    return isinstance(thing, tuple) and least <= len(thing) <= most


def are_levels(thing):
    if not is_tuple(thing, 1, MOST_THINGS):
        return False
    rows = 1
    for level in thing:
        if not is_whole(level, 1, MOST_SETTINGS):
            return False
        rows = rows * level
    return rows <= MOST_ROWS


def is_setting(levels, thing):
    if not is_tuple(thing, 2, 2) or not is_whole(thing[0], 0, len(levels) - 1):
        return False
    return is_whole(thing[1], 0, levels[thing[0]] - 1)


def is_meeting(levels, thing):
    if not is_tuple(thing, 1, MOST_IN_MEETING):
        return False
    behind = 0
    for pair in thing:
        if not is_setting(levels, pair) or pair[0] < behind:
            return False
        behind = pair[0] + 1
    return True


def is_book(thing):
    if not is_tuple(thing, 2, 2) or not are_levels(thing[0]) or not is_tuple(thing[1], 0, MOST_BANS):
        return False
    return all([is_meeting(thing[0], ban) for ban in thing[1]])


def checked(book):
    if not is_book(book):
        # The words don't show the thing: showing one of any kind may fail.
        raise BadBook("this is no book")
    return book


def meets(row, meeting):
    return all([row[pair[0]] == pair[1] for pair in meeting])


def meets_any(row, meetings):
    return any([meets(row, meeting) for meeting in meetings])


def all_rows(levels):
    rows = [()]
    for level in levels:
        longer = []
        for row in rows:
            longer.extend([row + (setting,) for setting in range(level)])
        rows = longer
    return rows


def all_tests(book):
    checked(book)
    return [row for row in all_rows(book[0]) if not meets_any(row, book[1])]


def is_row(levels, thing):
    if not is_tuple(thing, len(levels), len(levels)):
        return False
    return all([is_whole(setting, 0, level - 1) for setting, level in zip(thing, levels)])


def is_test(book, thing):
    return is_row(book[0], thing) and not meets_any(thing, book[1])


def check_list(things, is_right):
    if not isinstance(things, list):
        raise BadTests(0)
    for place, thing in enumerate(things):
        if not is_right(thing):
            raise BadTests(place)


def check_tests(book, tests):
    check_list(tests, lambda test: is_test(book, test))
