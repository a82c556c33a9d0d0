import copy
import unittest

import samples
from pairtests.books import all_tests, checked
from pairtests.errors import BadBook, TestError


class Checked(unittest.TestCase):
    def accept(self, book):
        self.assertEqual(checked(book), book)

    def refuse(self, book):
        for asked in (checked, all_tests):
            with self.assertRaises(TestError) as taken:
                asked(book)
            self.assertIs(type(taken.exception), BadBook)

    def test_books_are_told_as_they_are(self):
        for book in samples.GOOD_BOOKS:
            with self.subTest(book=book):
                self.accept(book)

    def test_how_many_things(self):
        self.accept(((1,), ()))
        self.accept(((1,) * 6, ()))
        self.refuse(((1,) * 7, ()))
        self.refuse(((), ()))

    def test_how_many_settings(self):
        self.accept(((1,), ()))
        self.accept(((4,), ()))
        self.refuse(((0,), ()))
        self.refuse(((5,), ()))
        self.refuse(((2, 0), ()))
        self.refuse(((2, 5), ()))
        self.refuse(((-1, -1), ()))

    def test_all_levels_multiplied(self):
        # 384 and 432 are the nearest to 400 that levels from 1 to 4 can give.
        self.accept(((4, 4, 4, 3, 2), ()))
        self.accept(((4, 4, 4, 3, 2, 1), ()))
        self.accept(((4, 4, 4, 2, 3, 1), ()))
        self.refuse(((4, 4, 3, 3, 3), ()))
        self.refuse(((1, 3, 3, 3, 4, 4), ()))
        self.refuse(((4, 3, 3, 3, 2, 2), ()))

    def test_how_many_bans(self):
        ban = ((0, 0), (1, 0))
        bans = tuple(((0, first), (1, second)) for first in range(4) for second in range(4))
        self.accept(((2, 2), ()))
        self.accept(((2, 2), (ban,)))
        self.accept(((2, 2), (ban, ban)))
        self.accept(((2, 2), (ban,) * 12))
        self.accept(((4, 4), bans[:12]))
        self.refuse(((2, 2), (ban,) * 13))
        self.refuse(((4, 4), bans[:13]))

    def test_how_many_settings_in_a_ban(self):
        levels = (2, 2, 2, 2)
        self.accept((levels, (((3, 1),),)))
        self.accept((levels, (((0, 0), (3, 1)),)))
        self.accept((levels, (((0, 0), (2, 1), (3, 1)),)))
        self.refuse((levels, ((),)))
        self.refuse((levels, (((0, 0), (1, 0), (2, 0), (3, 0)),)))

    def test_a_ban_is_of_things_and_settings_that_are_there(self):
        self.accept(((2, 3), (((0, 1), (1, 2)),)))
        self.refuse(((2, 3), (((0, 2), (1, 2)),)))
        self.refuse(((2, 3), (((0, 1), (1, 3)),)))
        self.refuse(((2, 3), (((0, 1), (2, 0)),)))
        self.refuse(((2, 3), (((-1, 1),),)))
        self.refuse(((2, 3), (((0, -1),),)))

    def test_the_things_of_a_ban_rise(self):
        self.refuse(((2, 3), (((1, 0), (0, 0)),)))
        self.refuse(((2, 3), (((0, 0), (0, 0)),)))
        self.refuse(((2, 3), (((0, 0), (0, 1)),)))

    def test_a_wrong_ban_behind_right_ones(self):
        self.refuse(((2, 3), (((0, 0),), ((0, 1), (1, 2)), ((1, 3),))))

    def test_true_and_false_are_no_numbers(self):
        self.refuse(((True,), ()))
        self.refuse(((2, True), ()))
        self.refuse(((2, 2), (((False, 0),),)))
        self.refuse(((2, 2), (((0, True),),)))
        self.refuse(((2, 2), (((0, 0), (True, 0)),)))

    def test_whatever_is_no_book_is_refused(self):
        for book in samples.wrong_books():
            with self.subTest(book=repr(book)[:200]):
                self.refuse(book)

    def test_what_is_refused_stays_as_it_was(self):
        for book in ([[2, 2], []], ((2, 2), [((0, 0),)]), ((2, 2), ([(0, 0)],)), ([2, 2], ())):
            before = copy.deepcopy(book)
            self.refuse(book)
            self.assertEqual(book, before)


class AllTests(unittest.TestCase):
    def test_without_bans(self):
        self.assertEqual(all_tests(((1,), ())), [(0,)])
        self.assertEqual(all_tests(((3,), ())), [(0,), (1,), (2,)])
        self.assertEqual(all_tests(((2, 3), ())), [(0, 0), (0, 1), (0, 2), (1, 0), (1, 1), (1, 2)])

    def test_with_bans(self):
        self.assertEqual(all_tests(((3,), (((0, 1),),))), [(0,), (2,)])
        self.assertEqual(all_tests(((2, 2), (((0, 0), (1, 1)),))), [(0, 0), (1, 0), (1, 1)])
        self.assertEqual(all_tests(((2, 2), (((0, 0), (1, 1)), ((1, 0),)))), [(1, 1)])
        self.assertEqual(
            all_tests(((2, 2, 2), (((0, 0), (1, 0), (2, 0)), ((0, 1), (2, 1))))),
            [(0, 0, 1), (0, 1, 0), (0, 1, 1), (1, 0, 0), (1, 1, 0)],
        )

    def test_the_same_ban_twice(self):
        ban = ((0, 0), (1, 1))
        self.assertEqual(all_tests(((2, 2), (ban, ban))), all_tests(((2, 2), (ban,))))

    def test_where_no_test_is_left(self):
        self.assertEqual(all_tests(((1,), (((0, 0),),))), [])
        self.assertEqual(all_tests(((3, 2), (((1, 0),), ((1, 1),)))), [])
        self.assertEqual(all_tests(((2, 1), (((0, 0), (1, 0)), ((0, 1), (1, 0))))), [])

    def test_the_largest_book(self):
        tests = all_tests(((4, 4, 4, 3, 2, 1), ()))
        self.assertEqual((len(tests), tests[0], tests[-1]), (384, (0,) * 6, (3, 3, 3, 2, 1, 0)))

    def test_like_the_plain_way(self):
        for book in samples.GOOD_BOOKS + samples.drawn_books(300):
            with self.subTest(book=book):
                self.assertEqual(all_tests(book), samples.plain_tests(book))

    def test_a_list_of_tuples_of_whole_numbers(self):
        for book in samples.GOOD_BOOKS:
            tests = all_tests(book)
            self.assertIs(type(tests), list)
            self.assertEqual({type(row) for row in tests} - {tuple}, set())
            self.assertEqual({type(setting) for row in tests for setting in row} - {int}, set())

    def test_the_book_stays_and_the_list_is_new(self):
        for book in samples.GOOD_BOOKS:
            before = copy.deepcopy(book)
            told = all_tests(book)
            told.clear()
            again = all_tests(book)
            self.assertIsNot(told, again)
            self.assertEqual(again, samples.plain_tests(book))
            self.assertEqual(checked(book), before)
            self.assertEqual(book, before)


if __name__ == "__main__":
    unittest.main()
