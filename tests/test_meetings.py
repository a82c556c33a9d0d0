import copy
import unittest

import samples
from pairtests.errors import BadBook, BadStrength, TestError
from pairtests.meetings import all_meetings, impossible, possible

FUNCTIONS = (all_meetings, possible, impossible)


class Meetings(unittest.TestCase):
    def refuse(self, kind, book, strength):
        for asked in FUNCTIONS:
            with self.assertRaises(TestError) as taken:
                asked(book, strength)
            self.assertIs(type(taken.exception), kind)

    def test_strength_one(self):
        book = ((2, 3), (((1, 1),),))
        self.assertEqual(all_meetings(book, 1), [((0, 0),), ((0, 1),), ((1, 0),), ((1, 1),), ((1, 2),)])
        self.assertEqual(possible(book, 1), [((0, 0),), ((0, 1),), ((1, 0),), ((1, 2),)])
        self.assertEqual(impossible(book, 1), [((1, 1),)])

    def test_strength_two_rises_by_settings_not_by_things(self):
        book = ((2, 1, 1), (((0, 0), (2, 0)),))
        every = [((0, 0), (1, 0)), ((0, 0), (2, 0)), ((0, 1), (1, 0)), ((0, 1), (2, 0)), ((1, 0), (2, 0))]
        self.assertEqual(all_meetings(book, 2), every)
        self.assertEqual(possible(book, 2), [every[2], every[3], every[4]])
        self.assertEqual(impossible(book, 2), every[:2])

    def test_strength_three(self):
        book = ((2, 1, 2), (((0, 0), (1, 0), (2, 1)),))
        every = [
            ((0, 0), (1, 0), (2, 0)), ((0, 0), (1, 0), (2, 1)), ((0, 1), (1, 0), (2, 0)), ((0, 1), (1, 0), (2, 1)),
        ]
        self.assertEqual(all_meetings(book, 3), every)
        self.assertEqual(possible(book, 3), [every[0], every[2], every[3]])
        self.assertEqual(impossible(book, 3), [every[1]])

    def test_impossible_through_several_bans(self):
        # Either setting of thing 1 is banned beside (0, 0), so (0, 0) is in no test.
        book = ((2, 2), (((0, 0), (1, 0)), ((0, 0), (1, 1))))
        self.assertEqual(possible(book, 1), [((0, 1),), ((1, 0),), ((1, 1),)])
        self.assertEqual(impossible(book, 1), [((0, 0),)])

    def test_without_bans_all_are_possible(self):
        for strength in (1, 2, 3):
            book = ((2, 3, 1, 2), ())
            self.assertEqual(possible(book, strength), all_meetings(book, strength))
            self.assertEqual(impossible(book, strength), [])

    def test_a_book_without_a_test(self):
        for strength in (1, 2, 3):
            self.assertEqual(possible(samples.NO_TEST, strength), [])
            self.assertEqual(impossible(samples.NO_TEST, strength), all_meetings(samples.NO_TEST, strength))
            self.assertEqual(all_meetings(samples.NO_TEST, strength), samples.plain_meetings(samples.NO_TEST, strength))

    def test_like_the_plain_way(self):
        for book in samples.GOOD_BOOKS + samples.drawn_books(150):
            for strength in samples.strengths(book):
                with self.subTest(book=book, strength=strength):
                    self.assertEqual(all_meetings(book, strength), samples.plain_meetings(book, strength))
                    self.assertEqual(possible(book, strength), samples.plain_possible(book, strength))
                    self.assertEqual(impossible(book, strength), samples.plain_impossible(book, strength))

    def test_each_is_in_just_one_of_possible_and_impossible(self):
        for book in samples.GOOD_BOOKS:
            for strength in samples.strengths(book):
                both = possible(book, strength) + impossible(book, strength)
                self.assertEqual(sorted(both), all_meetings(book, strength))
                self.assertEqual(len(set(both)), len(both))

    def test_lists_of_tuples_of_tuples(self):
        for asked in FUNCTIONS:
            told = asked(((2, 2, 2), (((0, 0), (1, 1)),)), 2)
            self.assertIs(type(told), list)
            for meeting in told:
                self.assertIs(type(meeting), tuple)
                self.assertEqual([type(pair) for pair in meeting], [tuple, tuple])

    def test_strengths_just_within_and_just_beyond(self):
        for many in range(1, 7):
            book = ((1,) * many, ())
            within = min(3, many)
            self.assertEqual(possible(book, within), all_meetings(book, within))
            self.assertGreater(len(all_meetings(book, within)), 0)
            self.refuse(BadStrength, book, within + 1)
            self.refuse(BadStrength, book, 0)

    def test_whatever_is_no_strength_is_refused(self):
        for book in samples.GOOD_BOOKS:
            for strength in samples.wrong_strengths(book):
                with self.subTest(book=book, strength=repr(strength)):
                    self.refuse(BadStrength, book, strength)

    def test_true_is_no_strength(self):
        self.refuse(BadStrength, ((2, 2), ()), True)
        self.refuse(BadStrength, ((2, 2), ()), False)

    def test_whatever_is_no_book_is_refused(self):
        for book in samples.wrong_books():
            with self.subTest(book=repr(book)[:200]):
                self.refuse(BadBook, book, 1)

    def test_the_book_is_refused_ahead_of_the_strength(self):
        for book in (None, (), ((), ()), ((1,) * 7, ()), ((2, 2), (((0, 2),),)), ([2, 2], ())):
            for strength in (0, 4, -1, 7, True, None, "2", 1.0, (), []):
                self.refuse(BadBook, book, strength)

    def test_the_book_stays_and_the_lists_are_new(self):
        for book in samples.GOOD_BOOKS:
            before = copy.deepcopy(book)
            for strength in samples.strengths(book):
                for asked in FUNCTIONS:
                    told = asked(book, strength)
                    kept = list(told)
                    told.clear()
                    again = asked(book, strength)
                    self.assertEqual(again, kept)
                    self.assertIsNot(again, told)
            self.assertEqual(book, before)

    def test_calls_with_other_books_between(self):
        first = ((2, 2), (((0, 0), (1, 0)),))
        second = ((2, 2), (((0, 1), (1, 1)),))
        for asked in FUNCTIONS:
            alone = asked(first, 2)
            asked(second, 2)
            asked(first, 1)
            self.assertEqual(asked(first, 2), alone)


if __name__ == "__main__":
    unittest.main()
