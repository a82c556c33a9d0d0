"""Tests that meet all, built for a book of any size."""

from pairtests.books import all_tests
from pairtests.covers import in_order, trimmed
from pairtests.meetings import check_book_and_strength


def built(book, strength):
    check_book_and_strength(book, strength)
    # All tests are a cover. Trimming begins with the last ones, so those that meet most soonest are what stays.
    return trimmed(book, strength, in_order(book, strength, all_tests(book)))
