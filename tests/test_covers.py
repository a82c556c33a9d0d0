import copy
import unittest

import samples
from pairtests.books import all_tests
from pairtests.covers import in_order, is_cover, missing, needless, trimmed
from pairtests.errors import BadBook, BadStrength, BadTests
from pairtests.meetings import possible

FUNCTIONS = (missing, is_cover, needless, trimmed, in_order)
LISTS = (missing, needless, trimmed, in_order)
SQUARE = ((2, 2), ())
CUBE = ((2, 2, 2), ())
GOOD = [(0, 0, 0), (1, 1, 1), (0, 2, 1), (1, 0, 0), (0, 0, 0)]


class Refusals(unittest.TestCase):
    def refuse_tests(self, tests, at, strength=2):
        for asked in FUNCTIONS:
            error = samples.refusal(asked, samples.ROWS_BOOK, strength, tests)
            self.assertIs(type(error), BadTests, asked)
            self.assertEqual(error.at, at, asked)
            self.assertIs(type(error.at), int)

    def test_good_ones_are_let_by(self):
        for asked in FUNCTIONS:
            for tests in ([], GOOD, all_tests(samples.ROWS_BOOK)):
                asked(samples.ROWS_BOOK, 2, tests)

    def test_whatever_is_no_list(self):
        for thing in samples.NO_LISTS:
            with self.subTest(thing=repr(thing)):
                self.refuse_tests(thing, 0)

    def test_a_tuple_of_tests_is_no_list(self):
        self.refuse_tests(tuple(GOOD), 0)

    def test_a_lone_row_that_is_no_test(self):
        for row in samples.wrong_rows():
            for strength in (1, 2, 3):
                with self.subTest(row=repr(row), strength=strength):
                    self.refuse_tests([row], 0, strength)

    def test_at_the_first_a_middle_and_the_last_place(self):
        for row in samples.wrong_rows():
            with self.subTest(row=repr(row)):
                for place in (0, 1, 2, len(GOOD) - 1, len(GOOD)):
                    self.refuse_tests(GOOD[:place] + [row] + GOOD[place:], place)

    def test_of_several_the_first(self):
        for row in samples.wrong_rows():
            with self.subTest(row=repr(row)):
                self.refuse_tests(GOOD[:2] + [row] + GOOD + [(1, 2, 0), None, row], 2)
                self.refuse_tests(GOOD[:1] + [(1, 2, 0)] + [row] + GOOD, 1)

    def test_a_banned_row_goes_in_another_book(self):
        for asked in FUNCTIONS:
            asked((samples.ROWS_BOOK[0], ()), 2, [(1, 2, 0), (0, 0, 1)])

    def test_in_a_book_without_a_test_each_row_is_refused(self):
        for asked in FUNCTIONS:
            self.assertEqual(samples.refusal(asked, samples.NO_TEST, 1, [(0, 0, 0)]).at, 0)
            self.assertIs(type(samples.refusal(asked, samples.NO_TEST, 1, [(1, 1, 0)])), BadTests)

    def test_whatever_is_no_strength(self):
        for book in (((2,), ()), SQUARE, samples.ROWS_BOOK, samples.NO_TEST):
            for strength in samples.wrong_strengths(book):
                for asked in FUNCTIONS:
                    for tests in ([], None, [None]):
                        self.assertIs(type(samples.refusal(asked, book, strength, tests)), BadStrength)

    def test_whatever_is_no_book(self):
        for book in samples.wrong_books():
            with self.subTest(book=repr(book)[:200]):
                for asked in FUNCTIONS:
                    self.assertIs(type(samples.refusal(asked, book, 1, [])), BadBook)

    def test_the_book_ahead_of_the_strength_ahead_of_the_tests(self):
        for asked in FUNCTIONS:
            for strength in (0, 4, True, None, "1"):
                for tests in ([], None, (), [None], [(0, 0, 0), (9, 9, 9)]):
                    self.assertIs(type(samples.refusal(asked, ((2, 5), ()), strength, tests)), BadBook)
                    self.assertIs(type(samples.refusal(asked, samples.ROWS_BOOK, strength, tests)), BadStrength)
            self.assertIs(type(samples.refusal(asked, ((2, 5), ()), 1, None)), BadBook)

    def test_what_is_refused_stays_as_it_was(self):
        for tests in ([(0, 0, 0), [0, 0, 0]], [(0, 0, 0), (1, 2, 0)], [[(0, 0, 0)]], ([(0, 0, 0)],)):
            before = copy.deepcopy(tests)
            for asked in FUNCTIONS:
                samples.refusal(asked, samples.ROWS_BOOK, 2, tests)
            self.assertEqual(tests, before)


class Missing(unittest.TestCase):
    def test_no_tests_miss_all_that_is_possible(self):
        for book in samples.GOOD_BOOKS:
            for strength in samples.strengths(book):
                self.assertEqual(missing(book, strength, []), possible(book, strength))

    def test_all_tests_miss_nothing(self):
        for book in samples.GOOD_BOOKS:
            for strength in samples.strengths(book):
                self.assertEqual(missing(book, strength, all_tests(book)), [])

    def test_some(self):
        tests = [(0, 0, 1), (1, 1, 1)]
        self.assertEqual(missing(CUBE, 1, tests), [((2, 0),)])
        self.assertEqual(missing(CUBE, 2, tests), [
            ((0, 0), (1, 1)), ((0, 0), (2, 0)), ((0, 1), (1, 0)), ((0, 1), (2, 0)), ((1, 0), (2, 0)), ((1, 1), (2, 0)),
        ])
        self.assertEqual(missing(CUBE, 3, tests), [
            ((0, 0), (1, 0), (2, 0)), ((0, 0), (1, 1), (2, 0)), ((0, 0), (1, 1), (2, 1)),
            ((0, 1), (1, 0), (2, 0)), ((0, 1), (1, 0), (2, 1)), ((0, 1), (1, 1), (2, 0)),
        ])

    def test_what_is_impossible_is_not_missed(self):
        book = ((2, 2), (((0, 0), (1, 1)),))
        self.assertEqual(missing(book, 2, [(0, 0)]), [((0, 1), (1, 0)), ((0, 1), (1, 1))])
        self.assertEqual(missing(book, 2, [(0, 0), (1, 0), (1, 1)]), [])

    def test_the_same_test_twice(self):
        self.assertEqual(missing(SQUARE, 2, [(0, 1), (0, 1)]), missing(SQUARE, 2, [(0, 1)]))
        self.assertEqual(missing(SQUARE, 1, [(0, 1), (0, 1)]), [((0, 1),), ((1, 0),)])

    def test_a_book_without_a_test(self):
        for strength in (1, 2, 3):
            self.assertEqual(missing(samples.NO_TEST, strength, []), [])

    def test_like_the_plain_way(self):
        for book in samples.GOOD_BOOKS + samples.drawn_books(60):
            for strength in samples.strengths(book):
                for tests in samples.drawn_tests(book, 5):
                    with self.subTest(book=book, strength=strength, tests=tests):
                        self.assertEqual(missing(book, strength, tests), samples.plain_missing(book, strength, tests))


class IsCover(unittest.TestCase):
    def test_true_and_false_themselves(self):
        self.assertIs(is_cover(SQUARE, 1, [(0, 0), (1, 1)]), True)
        self.assertIs(is_cover(SQUARE, 1, [(0, 0), (1, 0)]), False)
        self.assertIs(is_cover(SQUARE, 2, [(0, 0), (1, 1)]), False)
        self.assertIs(is_cover(SQUARE, 2, [(0, 0), (1, 1), (1, 0), (0, 1)]), True)
        self.assertIs(is_cover(SQUARE, 1, []), False)

    def test_a_cover_of_one_strength_and_not_of_the_next(self):
        tests = [(0, 0, 0), (0, 1, 1), (1, 0, 1), (1, 1, 0)]
        self.assertEqual([is_cover(CUBE, strength, tests) for strength in (1, 2, 3)], [True, True, False])

    def test_one_meeting_short(self):
        for book in samples.GOOD_BOOKS:
            top = samples.strengths(book)[-1]
            tests = all_tests(book)
            if len(book[0]) == top:
                for place in range(len(tests)):
                    self.assertIs(is_cover(book, top, samples.without(tests, place)), False)

    def test_no_tests_where_nothing_is_possible(self):
        for strength in (1, 2, 3):
            self.assertIs(is_cover(samples.NO_TEST, strength, []), True)
        self.assertIs(is_cover(((1,), (((0, 0),),)), 1, []), True)

    def test_like_the_plain_way(self):
        for book in samples.GOOD_BOOKS + samples.drawn_books(60):
            for strength in samples.strengths(book):
                for tests in samples.drawn_tests(book, 5):
                    covers = samples.plain_missing(book, strength, tests) == []
                    self.assertIs(is_cover(book, strength, tests), covers)


class Needless(unittest.TestCase):
    def test_none(self):
        self.assertEqual(needless(SQUARE, 1, []), [])
        self.assertEqual(needless(SQUARE, 1, [(0, 0)]), [])
        self.assertEqual(needless(SQUARE, 2, [(0, 0), (0, 1), (1, 0), (1, 1)]), [])

    def test_the_same_test_twice_makes_both_needless(self):
        self.assertEqual(needless(SQUARE, 2, [(0, 0), (0, 0)]), [0, 1])
        self.assertEqual(needless(SQUARE, 2, [(0, 0), (1, 0), (0, 0)]), [0, 2])
        self.assertEqual(needless(CUBE, 3, [(1, 1, 1), (0, 0, 0), (1, 1, 1), (1, 1, 1)]), [0, 2, 3])

    def test_a_test_that_meets_nothing_of_its_own(self):
        self.assertEqual(needless(SQUARE, 1, [(0, 0), (1, 1), (0, 1)]), [2])
        self.assertEqual(needless(SQUARE, 1, [(0, 1), (0, 0), (1, 1)]), [0])
        # Each pair of the first is in one of the others.
        tests = [(0, 0, 0), (0, 0, 1), (0, 1, 0), (1, 0, 0)]
        self.assertEqual(needless(CUBE, 2, tests), [0])
        self.assertEqual(needless(CUBE, 3, tests), [])

    def test_each_for_itself(self):
        # Any one can be left out, no two of them can: (0, 0) and (1, 1) are all it takes, and so are the others.
        self.assertEqual(needless(SQUARE, 1, [(0, 0), (1, 1), (0, 1), (1, 0)]), [0, 1, 2, 3])

    def test_like_the_plain_way(self):
        for book in samples.drawn_books(80):
            for strength in samples.strengths(book):
                for tests in samples.drawn_tests(book, 5):
                    with self.subTest(book=book, strength=strength, tests=tests):
                        told = needless(book, strength, tests)
                        self.assertEqual(told, samples.plain_needless(strength, tests))
                        self.assertEqual({type(place) for place in told} - {int}, set())


class Trimmed(unittest.TestCase):
    def test_nothing_to_trim(self):
        self.assertEqual(trimmed(SQUARE, 1, []), [])
        self.assertEqual(trimmed(SQUARE, 1, [(1, 0)]), [(1, 0)])
        self.assertEqual(trimmed(SQUARE, 1, [(1, 1), (0, 0)]), [(1, 1), (0, 0)])

    def test_from_the_last_one_to_the_first(self):
        self.assertEqual(trimmed(SQUARE, 1, [(0, 0), (1, 1), (0, 1), (1, 0)]), [(0, 0), (1, 1)])
        self.assertEqual(trimmed(SQUARE, 1, [(1, 0), (0, 1), (1, 1), (0, 0)]), [(1, 0), (0, 1)])
        # From the first one to the last, (0, 0) would go and three would stay.
        self.assertEqual(trimmed(SQUARE, 1, [(0, 0), (0, 1), (1, 0), (1, 1)]), [(0, 1), (1, 0)])

    def test_of_the_same_the_first_stays(self):
        tests = [(0, 0), (1, 0), (0, 0), (1, 1), (1, 0)]
        self.assertEqual(trimmed(SQUARE, 2, tests), [(0, 0), (1, 0), (1, 1)])

    def test_tests_that_are_no_cover(self):
        tests = [(0, 0, 0), (0, 0, 1), (0, 1, 0), (1, 0, 0)]
        self.assertEqual(trimmed(CUBE, 2, tests), tests[1:])
        self.assertEqual(trimmed(CUBE, 1, [(0, 0, 0), (0, 0, 1), (0, 0, 0)]), [(0, 0, 0), (0, 0, 1)])

    def test_like_the_plain_way(self):
        for book in samples.drawn_books(80):
            for strength in samples.strengths(book):
                for tests in samples.drawn_tests(book, 5):
                    with self.subTest(book=book, strength=strength, tests=tests):
                        self.assertEqual(trimmed(book, strength, tests), samples.plain_trimmed(strength, tests))

    def test_what_is_left_meets_as_much_and_none_of_it_is_needless(self):
        for book in samples.GOOD_BOOKS:
            for strength in samples.strengths(book):
                for tests in samples.drawn_tests(book, 5):
                    told = trimmed(book, strength, tests)
                    self.assertEqual(samples.plain_met(told, strength), samples.plain_met(tests, strength))
                    self.assertEqual(needless(book, strength, told), [])


class InOrder(unittest.TestCase):
    def test_no_tests_and_one(self):
        self.assertEqual(in_order(SQUARE, 1, []), [])
        self.assertEqual(in_order(SQUARE, 2, [(1, 0)]), [(1, 0)])

    def test_most_new_ones_next(self):
        self.assertEqual(in_order(SQUARE, 1, [(0, 0), (0, 1), (1, 1)]), [(0, 0), (1, 1), (0, 1)])
        tests = [(0, 0, 0), (0, 0, 1), (0, 1, 1), (1, 1, 1)]
        self.assertEqual(in_order(CUBE, 1, tests), [(0, 0, 0), (1, 1, 1), (0, 0, 1), (0, 1, 1)])
        self.assertEqual(in_order(CUBE, 2, tests), [(0, 0, 0), (0, 1, 1), (1, 1, 1), (0, 0, 1)])
        self.assertEqual(in_order(CUBE, 3, tests), tests)

    def test_ties_go_to_the_first_one_handed_in(self):
        tests = [(1, 1), (0, 1), (0, 0), (1, 0)]
        self.assertEqual(in_order(SQUARE, 2, tests), tests)
        self.assertEqual(in_order(SQUARE, 1, tests), [(1, 1), (0, 0), (0, 1), (1, 0)])

    def test_what_meets_nothing_new_comes_last_as_it_was_handed_in(self):
        tests = [(1, 0), (1, 0), (0, 0), (0, 1), (0, 0), (1, 1), (1, 0)]
        self.assertEqual(in_order(SQUARE, 1, tests), [(1, 0), (0, 1), (1, 0), (0, 0), (0, 0), (1, 1), (1, 0)])
        self.assertEqual(in_order(SQUARE, 2, tests), [(1, 0), (0, 0), (0, 1), (1, 1), (1, 0), (0, 0), (1, 0)])

    def test_like_the_plain_way(self):
        for book in samples.drawn_books(60):
            for strength in samples.strengths(book):
                for tests in samples.drawn_tests(book, 5):
                    with self.subTest(book=book, strength=strength, tests=tests):
                        self.assertEqual(in_order(book, strength, tests), samples.plain_in_order(strength, tests))

    def test_the_same_tests_as_often(self):
        for book in samples.GOOD_BOOKS:
            for strength in samples.strengths(book):
                for tests in samples.drawn_tests(book, 5):
                    self.assertEqual(sorted(in_order(book, strength, tests)), sorted(tests))


class NothingChanges(unittest.TestCase):
    def test_what_is_handed_in_stays_and_lists_are_new(self):
        for book in samples.GOOD_BOOKS:
            book_before = copy.deepcopy(book)
            for strength in samples.strengths(book):
                for tests in samples.drawn_tests(book, 3):
                    tests_before = copy.deepcopy(tests)
                    for asked in LISTS:
                        told = asked(book, strength, tests)
                        self.assertIs(type(told), list)
                        self.assertIsNot(told, tests)
                        kept = list(told)
                        told.clear()
                        self.assertEqual(tests, tests_before)
                        self.assertEqual(asked(book, strength, tests), kept)
                    is_cover(book, strength, tests)
                    self.assertEqual((book, tests), (book_before, tests_before))

    def test_calls_with_other_tests_between(self):
        first = [(0, 0, 0), (1, 1, 1), (0, 0, 0)]
        second = [(0, 1, 0), (1, 0, 1)]
        for asked in FUNCTIONS:
            alone = asked(CUBE, 2, first)
            asked(CUBE, 2, second)
            asked(CUBE, 1, first)
            asked(samples.NO_TEST, 1, [])
            self.assertEqual(asked(CUBE, 2, first), alone)


if __name__ == "__main__":
    unittest.main()
