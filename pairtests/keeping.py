"""Books with one more setting, thing or ban, and tests that are kept in them."""

from pairtests.books import (
    MOST_BANS, MOST_SETTINGS, all_tests, check_list, checked, is_book, is_meeting, is_test, is_whole,
)
from pairtests.covers import in_order_behind, trimmed
from pairtests.errors import BadBook, BadNumber, TooBig
from pairtests.meetings import check_book_and_strength

MOST_IN_ROW = 99


def within_bounds(book):
    # What was a book and is none with one more setting or thing is so by the bounds alone.
    if not is_book(book):
        raise TooBig("the book would be beyond its bounds")
    return book


def with_setting(book, thing):
    checked(book)
    levels = book[0]
    if not is_whole(thing, 0, len(levels) - 1):
        raise BadNumber("this is no thing of the book")
    return within_bounds((levels[:thing] + (levels[thing] + 1,) + levels[thing + 1:], book[1]))


def with_thing(book, settings):
    checked(book)
    if not is_whole(settings, 1, MOST_SETTINGS):
        raise BadNumber("no thing has so many settings")
    return within_bounds((book[0] + (settings,), book[1]))


def with_ban(book, ban):
    checked(book)
    if len(book[1]) >= MOST_BANS:
        raise TooBig("the book has as many bans as it may have")
    if not is_meeting(book[0], ban):
        raise BadBook("this is no ban for the book")
    return (book[0], book[1] + (ban,))


def is_any_row(thing):
    return isinstance(thing, tuple) and all([is_whole(setting, 0, MOST_IN_ROW) for setting in thing])


def tests_among(book, rows):
    found = {}
    for row in rows:
        if is_test(book, row):
            found[row] = True
    return list(found)


def kept(book, strength, tests):
    check_book_and_strength(book, strength)
    check_list(tests, is_any_row)
    ahead = tests_among(book, tests)
    behind = in_order_behind(ahead, all_tests(book), strength)
    # Trimming comes to those behind first, while all those ahead are still there, and leaves none that is needless;
    # what it leaves of those ahead is passed over, as all of them are kept.
    further = [test for test in trimmed(book, strength, ahead + behind) if test not in ahead]
    return ahead + further


def lengthened(tests, setting):
    check_list(tests, is_any_row)
    if not is_whole(setting, 0, MOST_SETTINGS - 1):
        raise BadNumber("no thing has this setting")
    return [row + (setting,) for row in tests]
