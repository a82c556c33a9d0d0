import copy
import unittest

import samples
from pairtests.errors import BadBook, TestError
from pairtests.meetings import impossible, whole_bans


class WholeBans(unittest.TestCase):
    def test_without_bans(self):
        for levels in ((1,), (4,), (2, 2), (2, 3, 2), (4, 4, 4, 3, 2, 1)):
            self.assertEqual(whole_bans((levels, ())), [])

    def test_lone_bans_are_whole(self):
        for ban in (((0, 1),), ((0, 1), (2, 0)), ((0, 1), (1, 1), (2, 0))):
            self.assertEqual(whole_bans(((2, 2, 2), (ban,))), [ban])

    def test_doubled_bans_stand_once(self):
        ban = ((0, 1), (2, 0))
        self.assertEqual(whole_bans(((2, 2, 2), (ban, ban, ban))), [ban])

    def test_bans_that_lie_in_one_another(self):
        book = ((3, 3, 3), (((0, 0), (1, 0), (2, 0)), ((0, 0), (2, 0)), ((0, 1), (1, 1)), ((1, 1),)))
        self.assertEqual(whole_bans(book), [((1, 1),), ((0, 0), (2, 0))])

    def test_bans_that_make_one_setting_impossible_together(self):
        book = ((2, 2, 2), (((0, 0), (1, 0)), ((0, 0), (1, 1))))
        self.assertEqual(whole_bans(book), [((0, 0),)])

    def test_bans_that_make_a_pair_impossible_together(self):
        book = ((2, 2, 2), (((0, 0), (1, 0), (2, 0)), ((0, 0), (1, 0), (2, 1))))
        self.assertEqual(whole_bans(book), [((0, 0), (1, 0))])

    def test_bans_that_make_further_meetings_impossible_together(self):
        # Thing 2 must be 1 beside (0, 0) and 0 beside (1, 0): so these two are in no test together.
        book = ((2, 2, 2), (((0, 0), (2, 0)), ((1, 0), (2, 1))))
        self.assertEqual(whole_bans(book), [((0, 0), (1, 0)), ((0, 0), (2, 0)), ((1, 0), (2, 1))])

    def test_a_three_that_no_ban_names(self):
        book = ((2, 2, 2, 2), (((0, 0), (1, 0), (3, 0)), ((2, 0), (3, 1))))
        self.assertEqual(
            whole_bans(book),
            [((2, 0), (3, 1)), ((0, 0), (1, 0), (2, 0)), ((0, 0), (1, 0), (3, 0))],
        )

    def test_four_settings_are_no_whole_ban(self):
        # No test has 0 for the things 0 to 3 together, but that is a meeting of four.
        book = ((2, 2, 2, 2, 2), (((0, 0), (1, 0), (4, 0)), ((2, 0), (3, 0), (4, 1))))
        self.assertEqual(whole_bans(book), [((0, 0), (1, 0), (4, 0)), ((2, 0), (3, 0), (4, 1))])

    def test_a_thing_of_which_each_setting_is_banned(self):
        book = ((2, 1, 2), (((0, 0),), ((0, 1),)))
        self.assertEqual(whole_bans(book), [((0, 0),), ((0, 1),), ((1, 0),), ((2, 0),), ((2, 1),)])

    def test_books_of_one_thing(self):
        self.assertEqual(whole_bans(((1,), ())), [])
        self.assertEqual(whole_bans(((3,), (((0, 2),), ((0, 0),)))), [((0, 0),), ((0, 2),)])
        self.assertEqual(whole_bans(((1,), (((0, 0),),))), [((0, 0),)])

    def test_books_of_two_things(self):
        self.assertEqual(whole_bans(((2, 2), (((0, 1), (1, 0)),))), [((0, 1), (1, 0))])
        self.assertEqual(whole_bans(((2, 2), (((0, 1), (1, 0)), ((1, 1),)))), [((0, 1),), ((1, 1),)])
        self.assertEqual(whole_bans(((2, 1), (((0, 1), (1, 0)),))), [((0, 1),)])

    def test_fewer_settings_first_then_rising(self):
        three = ((0, 0), (1, 0), (2, 0))
        two = ((0, 0), (3, 0))
        later_two = ((1, 1), (2, 1))
        one = ((3, 2),)
        book = ((3, 3, 3, 3), (three, later_two, two, one))
        self.assertEqual(whole_bans(book), [one, two, later_two, three])

    def test_like_the_plain_way(self):
        for book in samples.GOOD_BOOKS + samples.drawn_books(200):
            with self.subTest(book=book):
                self.assertEqual(whole_bans(book), samples.plain_whole_bans(book))

    def test_each_is_impossible(self):
        for book in samples.GOOD_BOOKS:
            for meeting in whole_bans(book):
                self.assertIn(meeting, impossible(book, len(meeting)))

    def test_whatever_is_no_book_is_refused(self):
        for book in samples.wrong_books():
            with self.subTest(book=repr(book)[:200]), self.assertRaises(TestError) as taken:
                whole_bans(book)
            self.assertIs(type(taken.exception), BadBook)

    def test_the_book_stays_and_the_list_is_new(self):
        for book in samples.GOOD_BOOKS:
            before = copy.deepcopy(book)
            told = whole_bans(book)
            self.assertIs(type(told), list)
            kept = list(told)
            told.clear()
            again = whole_bans(book)
            self.assertIsNot(again, told)
            self.assertEqual(again, kept)
            self.assertEqual(book, before)


if __name__ == "__main__":
    unittest.main()
