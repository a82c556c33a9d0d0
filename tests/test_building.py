import copy
import time
import unittest

import samples
from pairtests.building import built
from pairtests.errors import BadBook, BadStrength

# The greatest that the bounds of a book allow, and others near them.
GREAT_LEVELS = [
    (4, 4, 4, 3, 2, 1), (1, 2, 3, 4, 4, 4), (4, 4, 4, 3, 2), (3, 3, 3, 3, 2, 2), (4, 4, 3, 2, 2, 2), (4, 4, 4, 4),
    (3, 3, 3, 3, 3), (4, 3, 2, 2, 2, 4), (2, 2, 2, 2, 2, 2), (4, 4, 4, 2, 2, 1),
]

SOME_BANS = (
    ((0, 0), (1, 0)), ((0, 1), (2, 0)), ((1, 1), (2, 0), (3, 0)), ((0, 0), (3, 1)), ((2, 1), (3, 1)), ((0, 0), (1, 1)),
)


class Built(unittest.TestCase):
    def hold(self, book, strength):
        tests = built(book, strength)
        self.assertIs(type(tests), list)
        self.assertEqual({type(row) for row in tests} - {tuple}, set())
        self.assertEqual({type(setting) for row in tests for setting in row} - {int}, set())
        self.assertLessEqual(set(tests), set(samples.plain_tests(book)))
        self.assertEqual(samples.plain_met(tests, strength), set(samples.plain_possible(book, strength)))
        self.assertEqual(samples.plain_needless(strength, tests), [])

    def test_a_cover_with_none_needless(self):
        for book in samples.GOOD_BOOKS + samples.drawn_books(200):
            for strength in samples.strengths(book):
                with self.subTest(book=book, strength=strength):
                    self.hold(book, strength)

    def test_the_greatest_books(self):
        for levels in GREAT_LEVELS:
            for bans in ((), SOME_BANS, SOME_BANS + SOME_BANS):
                # A ban names a setting that each of these books has, but where the levels begin with a 1.
                if levels[0] > 1 or not bans:
                    for strength in (1, 2, 3):
                        with self.subTest(levels=levels, bans=bans, strength=strength):
                            self.hold((levels, bans), strength)

    def test_the_greatest_books_do_not_take_long(self):
        for levels in GREAT_LEVELS:
            for strength in (1, 2, 3):
                begin = time.perf_counter()
                built((levels, ()), strength)
                self.assertLess(time.perf_counter() - begin, 5)

    def test_where_each_meeting_takes_a_test_of_its_own(self):
        self.assertEqual(sorted(built(((3,), ()), 1)), [(0,), (1,), (2,)])
        self.assertEqual(sorted(built(((2, 2), ()), 2)), [(0, 0), (0, 1), (1, 0), (1, 1)])
        self.assertEqual(sorted(built(((2, 2, 1), (((0, 0), (1, 1)),)), 3)), [(0, 0, 0), (1, 0, 0), (1, 1, 0)])

    def test_few(self):
        # All tests would be 384 and 324.
        self.assertLess(len(built(((4, 4, 4, 3, 2, 1), ()), 2)), 40)
        self.assertLess(len(built(((3, 3, 3, 3, 2, 2), ()), 1)), 10)

    def test_the_empty_list_where_nothing_is_possible(self):
        for strength in (1, 2, 3):
            self.assertEqual(built(samples.NO_TEST, strength), [])
        self.assertEqual(built(((1,), (((0, 0),),)), 1), [])

    def test_whatever_is_no_strength(self):
        for book in samples.GOOD_BOOKS + [samples.NO_TEST]:
            for strength in samples.wrong_strengths(book):
                self.assertIs(type(samples.refusal(built, book, strength)), BadStrength)

    def test_whatever_is_no_book(self):
        for book in samples.wrong_books():
            with self.subTest(book=repr(book)[:200]):
                self.assertIs(type(samples.refusal(built, book, 1)), BadBook)

    def test_the_book_ahead_of_the_strength(self):
        for strength in (0, 4, True, None, "1"):
            self.assertIs(type(samples.refusal(built, ((2, 5), ()), strength)), BadBook)

    def test_the_book_stays_and_the_list_is_new(self):
        for book in samples.GOOD_BOOKS:
            before = copy.deepcopy(book)
            for strength in samples.strengths(book):
                built(book, strength).clear()
                self.hold(book, strength)
            self.assertEqual(book, before)


if __name__ == "__main__":
    unittest.main()
