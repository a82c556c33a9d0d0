import copy
import math
import random
import time
import unittest

import samples
from pairtests.covers import needless
from pairtests.errors import BadBook, BadNumber, BadStrength, TooBig
from pairtests.keeping import kept, lengthened, with_ban, with_setting, with_thing

BAN = ((0, 0), (1, 1))
LEVELS = (2, 3, 2)
TWELVE = (LEVELS, (BAN,) * 12)
GREATEST = ((4, 4, 4, 3, 2, 1), (BAN,))

# Right rows of any book or of none, and what is no row at all.
ROWS = [(), (0,), (99,), (0, 99, 1), (0, 0, 0), (5,) * 40, (0, 0, 0)]


def no_rows():
    numbers = [-1, 100, 101, -99, 10 ** 30, -10 ** 30] + samples.NO_NUMBERS
    rows = [(number,) for number in numbers] + [(0, 0, number) for number in numbers]
    return rows + [(number, 0, 0) for number in numbers] + samples.NO_TUPLES + [[0, 0, 0], [(0, 0, 0)]]


def drawn_rows(book, chance):
    """Tests of the book, some of them twice, between rows that are none."""
    every = samples.plain_tests(book)
    rows = [chance.choice(every) for step in range(chance.randint(0, 6)) if every]
    for step in range(chance.randint(0, 5)):
        row = tuple(chance.choice((0, 0, 1, 1, 2, 3, 99)) for thing in range(chance.randint(0, 7)))
        rows.insert(chance.randint(0, len(rows)), row)
    return rows + rows[:chance.randint(0, 2)]


class WithSetting(samples.Asking):
    def test_each_thing(self):
        bans = (BAN,)
        self.assertEqual(with_setting((LEVELS, bans), 0), ((3, 3, 2), bans))
        self.assertEqual(with_setting((LEVELS, bans), 1), ((2, 4, 2), bans))
        self.assertEqual(with_setting((LEVELS, bans), 2), ((2, 3, 3), bans))
        self.assertEqual(with_setting(((1,), ()), 0), ((2,), ()))
        self.assertEqual(with_setting(((3,), (((0, 0),),)), 0), ((4,), (((0, 0),),)))

    def test_the_bounds(self):
        self.refuse(TooBig, with_setting, ((4,), ()), 0)
        self.refuse(TooBig, with_setting, ((2, 4, 2), ()), 1)
        self.assertEqual(with_setting(((2, 4, 2), ()), 2), ((2, 4, 3), ()))
        # 384 rows are let by, 432 are not, and 576 are not.
        self.assertEqual(with_setting(((4, 4, 4, 3, 1), ()), 4), ((4, 4, 4, 3, 2), ()))
        self.assertEqual(with_setting(((4, 4, 4, 2, 2), ()), 3), ((4, 4, 4, 3, 2), ()))
        self.refuse(TooBig, with_setting, ((3, 3, 3, 3, 2, 2), ()), 0)
        self.refuse(TooBig, with_setting, ((4, 4, 3, 3, 2, 1), ()), 4)
        self.refuse(TooBig, with_setting, ((4, 4, 4, 3, 2), ()), 4)

    def test_every_book_and_thing(self):
        for levels, bans in samples.GOOD_BOOKS + samples.drawn_books(100):
            for thing in range(len(levels)):
                more = tuple(level + (place == thing) for place, level in enumerate(levels))
                if max(more) > 4 or math.prod(more) > 400:
                    self.refuse(TooBig, with_setting, (levels, bans), thing)
                else:
                    self.assertEqual(with_setting((levels, bans), thing), (more, bans))

    def test_whatever_is_no_things_number(self):
        for book in ((LEVELS, ()), TWELVE, GREATEST, ((4,), ())):
            many = len(book[0])
            for thing in [-1, -many, many, many + 1, 10 ** 30] + samples.NO_NUMBERS:
                self.refuse(BadNumber, with_setting, book, thing)

    def test_whatever_is_no_book(self):
        for book in samples.wrong_books():
            for thing in (0, -1, 7, True, None):
                self.refuse(BadBook, with_setting, book, thing)


class WithThing(samples.Asking):
    def test_the_last_one(self):
        self.assertEqual(with_thing((LEVELS, (BAN,)), 1), ((2, 3, 2, 1), (BAN,)))
        self.assertEqual(with_thing((LEVELS, (BAN,)), 4), ((2, 3, 2, 4), (BAN,)))
        self.assertEqual(with_thing(((1,), ()), 3), ((1, 3), ()))

    def test_the_bounds(self):
        self.assertEqual(with_thing(((1,) * 5, ()), 4), ((1, 1, 1, 1, 1, 4), ()))
        self.refuse(TooBig, with_thing, ((1,) * 6, ()), 1)
        self.refuse(TooBig, with_thing, ((1,) * 6, ()), 4)
        self.assertEqual(with_thing(((4, 4, 4, 3), ()), 2), ((4, 4, 4, 3, 2), ()))
        self.assertEqual(with_thing(((4, 4, 4, 3, 2), ()), 1), ((4, 4, 4, 3, 2, 1), ()))
        self.refuse(TooBig, with_thing, ((4, 4, 3, 3), ()), 3)
        self.refuse(TooBig, with_thing, ((4, 4, 4, 3), ()), 3)
        self.refuse(TooBig, with_thing, ((4, 4, 4, 3, 2), ()), 2)

    def test_every_book_and_number(self):
        for levels, bans in samples.GOOD_BOOKS + samples.drawn_books(100):
            for settings in (1, 2, 3, 4):
                if len(levels) == 6 or math.prod(levels) * settings > 400:
                    self.refuse(TooBig, with_thing, (levels, bans), settings)
                else:
                    self.assertEqual(with_thing((levels, bans), settings), (levels + (settings,), bans))

    def test_whatever_is_no_number_from_1_to_4(self):
        for book in ((LEVELS, ()), TWELVE, GREATEST, ((4,), ())):
            for settings in [0, 5, -1, 6, 10 ** 30] + samples.NO_NUMBERS:
                self.refuse(BadNumber, with_thing, book, settings)

    def test_whatever_is_no_book(self):
        for book in samples.wrong_books():
            for settings in (1, 0, 5, True, None):
                self.refuse(BadBook, with_thing, book, settings)


class WithBan(samples.Asking):
    def test_behind_its_bans(self):
        first, second, third = ((1, 2),), ((0, 1), (1, 0), (2, 1)), ((0, 1), (2, 0))
        book = with_ban((LEVELS, ()), first)
        self.assertEqual(book, (LEVELS, (first,)))
        self.assertEqual(with_ban(book, second), (LEVELS, (first, second)))
        self.assertEqual(with_ban((LEVELS, (first, second)), third), (LEVELS, (first, second, third)))
        self.assertEqual(with_ban((LEVELS, (third, second)), first), (LEVELS, (third, second, first)))

    def test_one_that_is_there(self):
        self.assertEqual(with_ban((LEVELS, (BAN,)), BAN), (LEVELS, (BAN, BAN)))

    def test_the_bounds(self):
        book = (LEVELS, ())
        for many in range(12):
            book = with_ban(book, BAN)
            self.assertEqual(book, (LEVELS, (BAN,) * (many + 1)))
        self.refuse(TooBig, with_ban, book, BAN)

    def test_whatever_is_no_ban(self):
        for ban in samples.wrong_bans():
            self.refuse(BadBook, with_ban, (LEVELS, ()), ban)
            self.refuse(BadBook, with_ban, (LEVELS, (BAN,) * 11), ban)

    def test_too_many_bans_ahead_of_what_is_no_ban(self):
        for ban in samples.wrong_bans():
            self.refuse(TooBig, with_ban, TWELVE, ban)

    def test_whatever_is_no_book(self):
        for book in samples.wrong_books() + [(LEVELS, (BAN,) * 13)]:
            for ban in (BAN, None, ((9, 9),), ()):
                self.refuse(BadBook, with_ban, book, ban)


class Kept(samples.Asking):
    def hold(self, book, strength, rows):
        told = kept(book, strength, rows)
        every = samples.plain_tests(book)
        ahead = []
        for row in rows:
            if row in every and row not in ahead:
                ahead.append(row)
        self.assertIs(type(told), list)
        self.assertEqual(told[:len(ahead)], ahead)
        self.assertLessEqual(set(told), set(every))
        self.assertEqual(len(set(told)), len(told))
        self.assertEqual(samples.plain_missing(book, strength, told), [])
        self.assertEqual([place for place in samples.plain_needless(strength, told) if place >= len(ahead)], [])
        return told

    def test_none_to_keep(self):
        for book in samples.GOOD_BOOKS:
            for strength in samples.strengths(book):
                told = self.hold(book, strength, [])
                self.assertEqual(needless(book, strength, told), [])

    def test_all_to_keep(self):
        for book in samples.LESSER_BOOKS:
            every = samples.plain_tests(book)
            for strength in samples.strengths(book):
                self.assertEqual(self.hold(book, strength, every), every)
                self.assertEqual(self.hold(book, strength, every[::-1] + every), every[::-1])

    def test_needless_ones_are_kept_too(self):
        self.assertEqual(kept(((2, 2), ()), 1, [(0, 1), (0, 0), (1, 1)]), [(0, 1), (0, 0), (1, 1)])
        told = self.hold(((2, 2), ()), 1, [(0, 0), (0, 1), (0, 0)])
        self.assertEqual(told[:2], [(0, 0), (0, 1)])
        self.assertEqual(len(told), 3)

    def test_further_tests_that_are_the_only_ones(self):
        self.assertEqual(kept(((2, 2), ()), 1, [(1, 0)]), [(1, 0), (0, 1)])
        self.assertEqual(kept(((2, 2), ()), 2, [(1, 0), (0, 0), (0, 1)]), [(1, 0), (0, 0), (0, 1), (1, 1)])
        self.assertEqual(kept(((3,), ()), 1, [(2,), (0,)]), [(2,), (0,), (1,)])

    def test_rows_that_are_no_tests_are_left_out(self):
        book = ((2, 2), (((0, 0), (1, 1)),))
        rows = [(0, 1), (), (0,), (1, 0, 0), (2, 0), (0, 2), (99, 99), (1, 1), (0, 0, 0), (1, 0), (1, 1), (0, 1)]
        self.assertEqual(kept(book, 2, rows), [(1, 1), (1, 0), (0, 0)])
        self.assertEqual(kept(book, 2, rows + [(0, 0), (1, 1)]), [(1, 1), (1, 0), (0, 0)])
        self.assertEqual(kept(samples.NO_TEST, 2, [(0, 0, 0), (1, 1, 0), (5,)]), [])

    def test_few_further_ones(self):
        # What is kept is made use of: four tests of a cover of four leave nothing to add, three leave one.
        cover = [(0, 0, 0), (0, 1, 1), (1, 0, 1), (1, 1, 0)]
        self.assertEqual(kept(((2, 2, 2), ()), 2, cover), cover)
        for place in range(4):
            rows = samples.without(cover, place)
            self.assertEqual(kept(((2, 2, 2), ()), 2, rows), rows + [cover[place]])

    def test_many_books_and_rows(self):
        chance = random.Random(7)
        for book in samples.GOOD_BOOKS + samples.drawn_books(100):
            for strength in samples.strengths(book):
                for step in range(4):
                    rows = drawn_rows(book, chance)
                    with self.subTest(book=book, strength=strength, rows=rows):
                        self.hold(book, strength, rows)

    def test_through_more_settings_things_and_bans(self):
        book = ((2, 2), ())
        tests = kept(book, 2, [])
        book = with_setting(book, 1)
        told = self.hold(book, 2, tests)
        self.assertEqual(told[:4], tests)
        book = with_thing(book, 2)
        longer = lengthened(told, 1)
        told = self.hold(book, 2, longer)
        self.assertEqual(told[:len(longer)], longer)
        book = with_ban(book, ((0, 0), (2, 1)))
        left = [row for row in told if (row[0], row[2]) != (0, 1)]
        told = self.hold(book, 2, told)
        self.assertEqual(told[:len(left)], left)

    def test_whatever_is_no_list(self):
        for rows in samples.NO_LISTS:
            self.refuse_tests(0, kept, samples.ROWS_BOOK, 2, rows)

    def test_whatever_is_no_row_at_its_place(self):
        for row in no_rows():
            for place in (0, 1, 4, len(ROWS)):
                self.refuse_tests(place, kept, samples.ROWS_BOOK, 2, ROWS[:place] + [row] + ROWS[place:])
            self.refuse_tests(2, kept, samples.ROWS_BOOK, 1, ROWS[:2] + [row, None, row])

    def test_whatever_is_no_strength(self):
        for book in (((2,), ()), samples.ROWS_BOOK, samples.NO_TEST):
            for strength in samples.wrong_strengths(book):
                for rows in ([], None, [None], [(100,)]):
                    self.refuse(BadStrength, kept, book, strength, rows)

    def test_whatever_is_no_book(self):
        for book in samples.wrong_books():
            for strength, rows in ((1, []), (0, []), (1, None), (None, [None])):
                self.refuse(BadBook, kept, book, strength, rows)

    def test_the_greatest_books_do_not_take_long(self):
        for levels in ((4, 4, 4, 3, 2, 1), (3, 3, 3, 3, 2, 2), (4, 4, 3, 2, 2, 2)):
            for strength in (1, 2, 3):
                every = samples.plain_tests((levels, ()))
                for rows in ([], every[:40], every[::2], every):
                    begin = time.perf_counter()
                    kept((levels, ()), strength, rows)
                    self.assertLess(time.perf_counter() - begin, 5)


class Lengthened(samples.Asking):
    def test_rows_with_the_setting_behind(self):
        self.assertEqual(lengthened([(0, 1), (2, 3)], 0), [(0, 1, 0), (2, 3, 0)])
        self.assertEqual(lengthened([(0, 1), (2, 3)], 3), [(0, 1, 3), (2, 3, 3)])
        self.assertEqual(lengthened([(0,), (0,)], 1), [(0, 1), (0, 1)])
        self.assertEqual(lengthened([(99, 5), (), (7,) * 9], 2), [(99, 5, 2), (2,), (7,) * 9 + (2,)])

    def test_no_rows(self):
        for setting in (0, 1, 2, 3):
            self.assertEqual(lengthened([], setting), [])

    def test_whatever_is_no_setting(self):
        for setting in [-1, 4, 5, 99, 10 ** 30] + samples.NO_NUMBERS:
            for rows in ([], ROWS, [(1, 1)]):
                self.refuse(BadNumber, lengthened, rows, setting)

    def test_whatever_is_no_list_of_rows(self):
        for setting in (0, 3, -1, 4, True, None):
            for rows in samples.NO_LISTS:
                self.refuse_tests(0, lengthened, rows, setting)
            for row in no_rows():
                for place in (0, 3, len(ROWS)):
                    self.refuse_tests(place, lengthened, ROWS[:place] + [row] + ROWS[place:], setting)

    def test_the_rows_stay_and_the_list_is_new(self):
        rows = list(ROWS)
        told = lengthened(rows, 1)
        self.assertEqual(rows, ROWS)
        self.assertIs(type(told), list)
        told.clear()
        self.assertEqual((rows, len(lengthened(rows, 1))), (ROWS, len(ROWS)))
        empty = []
        lengthened(empty, 0).append((0,))
        self.assertEqual((empty, lengthened(empty, 0)), ([], []))


class NothingChanges(unittest.TestCase):
    def test_the_book_stays(self):
        for book in ((LEVELS, (BAN,)), ((1,), ()), ((2, 2, 2, 2), (BAN, ((3, 1),)))):
            before = copy.deepcopy(book)
            for told in (with_setting(book, 0), with_thing(book, 2), with_ban(book, ((0, 0),))):
                self.assertEqual(book, before)
                self.assertNotEqual(told, before)
                self.assertEqual((type(told), type(told[0]), type(told[1])), (tuple, tuple, tuple))

    def test_the_rows_stay_and_the_list_is_new(self):
        chance = random.Random(9)
        for book in samples.GOOD_BOOKS:
            for strength in samples.strengths(book):
                rows = drawn_rows(book, chance)
                before = list(rows)
                told = kept(book, strength, rows)
                first = list(told)
                told.clear()
                self.assertEqual(rows, before)
                self.assertEqual(kept(book, strength, rows), first)
                every = samples.plain_tests(book)
                kept(book, strength, every).clear()
                self.assertEqual(every, samples.plain_tests(book))


if __name__ == "__main__":
    unittest.main()
