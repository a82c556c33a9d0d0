import copy
import time
import unittest

import samples
from pairtests.books import all_tests
from pairtests.errors import BadBook, BadStrength, TooBig
from pairtests.fewest import apart, fewest

FUNCTIONS = (fewest, apart)

# Levels, strength, how many tests are the fewest, how many meetings are apart at the most.
KNOWN = [
    ((1,), 1, 1, 1), ((4,), 1, 4, 4), ((2, 3), 1, 3, 3), ((2, 3), 2, 6, 6), ((2, 2, 2), 1, 2, 2), ((2, 2, 2), 2, 4, 4),
    ((2, 2, 2), 3, 8, 8), ((2, 2, 2, 2), 2, 5, 4), ((2, 2, 2, 2), 3, 8, 8), ((4, 3, 2), 2, 12, 12),
    ((4, 3, 2), 3, 24, 24), ((3, 2, 2, 2), 1, 3, 3), ((3, 2, 2, 2), 2, 6, 6), ((3, 2, 2, 2), 3, 12, 12),
    ((3, 3, 2), 2, 9, 9), ((1, 1, 1, 1, 1, 1), 3, 1, 1),
]

# As many as can be are apart here only if no one of them is met by a test that meets few.
WITH_A_TEST_LEFT_OUT = [
    ((2, 2, 2, 2), (((0, 1), (1, 0), (2, 0)), ((1, 0), (3, 0)))),
    ((2, 2, 2, 2), (((0, 0), (1, 0), (3, 1)), ((0, 0), (2, 1)))),
    ((2, 2, 2, 3), (
        ((2, 0), (3, 1)), ((0, 0), (1, 0)), ((2, 0), (3, 0)), ((0, 0), (2, 1), (3, 0)), ((0, 1), (2, 1), (3, 2)),
    )),
    ((2, 4, 4), (((1, 0), (2, 2)), ((0, 1), (1, 1), (2, 0)), ((1, 3),), ((0, 0), (1, 0), (2, 3)), ((2, 0),))),
]


def small_books():
    """Books that a search through all choices can be done for."""
    books = samples.GOOD_BOOKS + samples.drawn_books(100) + samples.drawn_small_books(80)
    books = books + samples.WITH_A_GAP + WITH_A_TEST_LEFT_OUT
    return [book for book in books if len(samples.plain_tests(book)) <= 16]


def most_disjoint(groups):
    """How many of the groups have nothing in common at the most, each one tried in and out."""
    if not groups:
        return 0
    first, rest = groups[0], groups[1:]
    with_first = 1 + most_disjoint([group for group in rest if not group & first])
    # With as many as there are groups left nothing is to be gained without the first.
    return with_first if with_first > len(rest) else max(with_first, most_disjoint(rest))


class Refusals(unittest.TestCase):
    def test_just_24_tests_are_let_by(self):
        for book in samples.JUST_SMALL:
            self.assertEqual(len(all_tests(book)), 24)
            for strength in samples.strengths(book):
                self.assertGreaterEqual(len(fewest(book, strength)), len(apart(book, strength)))
                self.assertGreater(len(apart(book, strength)), 0)

    def test_25_tests_and_more_are_too_big(self):
        for book in samples.JUST_TOO_BIG:
            self.assertEqual(len(all_tests(book)), 25)
        for book in samples.JUST_TOO_BIG + [((3, 3, 3), ()), ((2, 2, 2, 2, 2), ()), ((4, 4, 4, 3, 2, 1), ())]:
            for strength in samples.strengths(book):
                for asked in FUNCTIONS:
                    self.assertIs(type(samples.refusal(asked, book, strength)), TooBig)

    def test_many_rows_of_which_bans_leave_few(self):
        book = ((4, 4, 4, 3, 2, 1), tuple(((thing, setting),) for thing in (0, 1, 2) for setting in (0, 1, 3)))
        self.assertEqual(len(fewest(book, 2)), 6)
        self.assertEqual(len(apart(book, 2)), 6)
        none = ((4, 4, 4, 3, 2, 1), (((5, 0),),))
        self.assertEqual((fewest(none, 3), apart(none, 3)), ([], []))

    def test_whatever_is_no_strength(self):
        for book in [((2,), ()), ((2, 2), ()), samples.NO_TEST] + samples.JUST_SMALL + samples.JUST_TOO_BIG:
            for strength in samples.wrong_strengths(book):
                for asked in FUNCTIONS:
                    self.assertIs(type(samples.refusal(asked, book, strength)), BadStrength)

    def test_whatever_is_no_book(self):
        for book in samples.wrong_books():
            with self.subTest(book=repr(book)[:200]):
                for asked in FUNCTIONS:
                    self.assertIs(type(samples.refusal(asked, book, 1)), BadBook)

    def test_the_book_ahead_of_the_strength_ahead_of_too_big(self):
        for asked in FUNCTIONS:
            for strength in (0, 4, True, None, "1", 2.0):
                self.assertIs(type(samples.refusal(asked, ((4, 4, 4, 4, 4), ()), strength)), BadBook)
                self.assertIs(type(samples.refusal(asked, ((4, 4, 4, 4), ()), strength)), BadStrength)
            self.assertIs(type(samples.refusal(asked, ((4, 4, 4, 4, 4), ()), 1)), BadBook)


class Fewest(unittest.TestCase):
    def test_how_many_where_that_is_known(self):
        for levels, strength, many, apart_many in KNOWN:
            with self.subTest(levels=levels, strength=strength):
                self.assertEqual(len(fewest((levels, ()), strength)), many)

    def test_a_cover_of_tests(self):
        for book in small_books() + samples.JUST_SMALL:
            for strength in samples.strengths(book):
                with self.subTest(book=book, strength=strength):
                    tests = fewest(book, strength)
                    self.assertIs(type(tests), list)
                    self.assertEqual({type(row) for row in tests} - {tuple}, set())
                    self.assertLessEqual(set(tests), set(samples.plain_tests(book)))
                    self.assertEqual(samples.plain_missing(book, strength, tests), [])

    def test_no_choice_of_fewer_is_a_cover(self):
        for book in small_books():
            for strength in samples.strengths(book):
                many = len(fewest(book, strength))
                if many > 0:
                    with self.subTest(book=book, strength=strength):
                        self.assertTrue(samples.some_cover(book, strength, many))
                        self.assertFalse(samples.some_cover(book, strength, many - 1))

    def test_the_empty_list_where_nothing_is_possible(self):
        for strength in (1, 2, 3):
            self.assertEqual(fewest(samples.NO_TEST, strength), [])
        self.assertEqual(fewest(((1,), (((0, 0),),)), 1), [])


class Apart(unittest.TestCase):
    def test_how_many_where_that_is_known(self):
        for levels, strength, many, apart_many in KNOWN:
            with self.subTest(levels=levels, strength=strength):
                self.assertEqual(len(apart((levels, ()), strength)), apart_many)

    def test_possible_meetings_rising_no_two_met_by_one_test(self):
        for book in small_books() + samples.JUST_SMALL:
            for strength in samples.strengths(book):
                with self.subTest(book=book, strength=strength):
                    meetings = apart(book, strength)
                    self.assertIs(type(meetings), list)
                    self.assertLessEqual(set(meetings), set(samples.plain_possible(book, strength)))
                    self.assertEqual(meetings, sorted(set(meetings)))
                    self.assertTrue(samples.are_apart(meetings, samples.plain_tests(book)))
                    kinds = {type(part) for meeting in meetings for pair in meeting for part in (meeting, pair)}
                    self.assertEqual(kinds - {tuple}, set())

    def test_no_more_are_apart(self):
        for book in small_books():
            every = samples.plain_tests(book)
            for strength in samples.strengths(book):
                groups = [
                    frozenset(place for place, row in enumerate(every) if samples.plain_meets(row, meeting))
                    for meeting in samples.plain_possible(book, strength)
                ]
                # Which of the same groups is taken makes no difference, and small ones first end the search sooner.
                groups = sorted(set(groups), key=lambda group: (len(group), sorted(group)))
                with self.subTest(book=book, strength=strength):
                    self.assertEqual(len(apart(book, strength)), most_disjoint(groups))

    def test_the_empty_list_where_nothing_is_possible(self):
        for strength in (1, 2, 3):
            self.assertEqual(apart(samples.NO_TEST, strength), [])
        self.assertEqual(apart(((1,), (((0, 0),),)), 1), [])


class Both(unittest.TestCase):
    def test_more_tests_than_meetings_apart(self):
        for book in samples.WITH_A_GAP:
            self.assertEqual(len(fewest(book, 2)), len(apart(book, 2)) + 1, book)
        # Of 24 tests each.
        book = ((2, 2, 2, 3, 2), (((0, 1), (2, 0), (3, 1)), ((0, 0), (2, 0), (3, 2)), ((3, 0),)))
        self.assertEqual((len(fewest(book, 3)), len(apart(book, 3))), (11, 10))
        book = ((2, 2, 2, 2, 1, 2), (((1, 1), (2, 0)),))
        self.assertEqual((len(fewest(book, 2)), len(apart(book, 2))), (6, 5))

    def test_answers_come_soon(self):
        for book in samples.JUST_SMALL + samples.drawn_books(100):
            if len(samples.plain_tests(book)) <= 24:
                for strength in samples.strengths(book):
                    for asked in FUNCTIONS:
                        begin = time.perf_counter()
                        asked(book, strength)
                        self.assertLess(time.perf_counter() - begin, 5)

    def test_the_book_stays_and_the_lists_are_new(self):
        for book in samples.JUST_SMALL:
            before = copy.deepcopy(book)
            for strength in samples.strengths(book):
                for asked in FUNCTIONS:
                    told = asked(book, strength)
                    many = len(told)
                    told.clear()
                    again = asked(book, strength)
                    self.assertIsNot(again, told)
                    self.assertEqual(len(again), many)
            self.assertEqual(book, before)

    def test_calls_with_other_books_between(self):
        for asked in FUNCTIONS:
            alone = asked(samples.JUST_SMALL[0], 2)
            asked(samples.JUST_SMALL[3], 2)
            asked(samples.JUST_SMALL[0], 3)
            self.assertEqual(asked(samples.JUST_SMALL[0], 2), alone)


if __name__ == "__main__":
    unittest.main()
