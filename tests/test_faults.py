import copy
import random
import time
import unittest

import samples
from pairtests.building import built
from pairtests.errors import BadBook, BadResults, BadStrength
from pairtests.faults import blurred, most_looked, next_test, suspects

WITH_RESULTS = (suspects, next_test)
WITHOUT = (blurred, most_looked)
SQUARE = ((2, 2), ())
CUBE = ((2, 2, 2), ())
GOOD = [(0, 0, 0), (1, 1, 1), (0, 2, 1), (1, 0, 0), (0, 0, 0)]


def plain_results(tests, meeting):
    return [not samples.plain_meets(row, meeting) for row in tests]


def plain_suspects(book, strength, tests, results):
    return [one for one in samples.plain_possible(book, strength) if plain_results(tests, one) == results]


def plain_next(book, found):
    """The next test for these suspects."""
    best = None
    for row in samples.plain_tests(book):
        met = len([meeting for meeting in found if samples.plain_meets(row, meeting)])
        unmet = len(found) - met
        if met > 0 and unmet > 0 and (best is None or max(met, unmet) < best[0]):
            best = (max(met, unmet), row)
    return None if best is None else best[1]


def plain_blurred(book, strength, tests):
    alike = {}
    for meeting in samples.plain_possible(book, strength):
        alike.setdefault(str(plain_results(tests, meeting)), set()).add(meeting)
    return sorted(sorted(group) for group in alike.values() if len(group) > 1)


def plain_looked(book, found, fault):
    """How many further tests are looked for from these suspects on, if this meeting is at fault."""
    row = plain_next(book, found)
    if row is None:
        return 0
    met = samples.plain_meets(row, fault)
    return 1 + plain_looked(book, [one for one in found if samples.plain_meets(row, one) == met], fault)


def plain_most_looked(book, strength, tests):
    return max([
        plain_looked(book, plain_suspects(book, strength, tests, plain_results(tests, fault)), fault)
        for fault in samples.plain_possible(book, strength)
    ], default=0)


def results_for(book, strength, tests, chance):
    """Results that meetings give, and others."""
    meetings = samples.plain_possible(book, strength)
    found = [[True] * len(tests), [False] * len(tests), [chance.random() < 0.5 for test in tests]]
    return found + [plain_results(tests, meeting) for meeting in chance.sample(meetings, min(4, len(meetings)))]


def asked_about(books, lists):
    for book in books:
        for strength in samples.strengths(book):
            for tests in samples.drawn_tests(book, lists):
                yield book, strength, tests


class Refusals(samples.Asking):
    def test_good_ones_are_let_by(self):
        for tests in ([], GOOD):
            for asked in WITH_RESULTS:
                asked(samples.ROWS_BOOK, 2, tests, [True] * len(tests))
            for asked in WITHOUT:
                asked(samples.ROWS_BOOK, 2, tests)

    def refuse_results(self, tests, results):
        for asked in WITH_RESULTS:
            self.refuse(BadResults, asked, samples.ROWS_BOOK, 2, tests, results)

    def test_whatever_is_no_list(self):
        for results in samples.NO_LISTS:
            self.refuse_results([], results)
            self.refuse_results(GOOD[:2], results)
        for results in ((True,), (), "T", {0: True}, True, {True}):
            self.refuse_results(GOOD[:1], results)

    def test_too_few_and_too_many(self):
        for many in range(8):
            for other in range(8):
                if many != other:
                    tests = (GOOD + GOOD)[:many]
                    self.refuse_results(tests, [True] * other)
                    self.refuse_results(tests, [False] * other)

    def test_whatever_is_neither_true_nor_false(self):
        odd = [thing for thing in samples.NO_NUMBERS if thing is not True and thing is not False]
        for thing in odd + [0, 1, -1, 2, 0.0, 1.0, "True", [True], (True,)]:
            for place in range(5):
                self.refuse_results(GOOD, [True] * place + [thing] + [False] * (4 - place))
            self.refuse_results(GOOD[:1], [thing])

    def wrong_tests(self, asked, *behind):
        for tests in samples.NO_LISTS:
            self.refuse_tests(0, asked, samples.ROWS_BOOK, 2, tests, *behind)
        for row in samples.wrong_rows():
            for place in (0, 2, len(GOOD)):
                self.refuse_tests(place, asked, samples.ROWS_BOOK, 2, GOOD[:place] + [row] + GOOD[place:], *behind)
            self.refuse_tests(1, asked, samples.ROWS_BOOK, 1, GOOD[:1] + [row, None, row], *behind)

    def test_whatever_is_no_list_of_tests(self):
        for asked in WITHOUT:
            self.wrong_tests(asked)
        for asked in WITH_RESULTS:
            for results in ([], [True] * 6, None, [None], 1, "T", (True,)):
                self.wrong_tests(asked, results)

    def test_whatever_is_no_strength(self):
        for book in (((2,), ()), SQUARE, samples.ROWS_BOOK, samples.NO_TEST):
            for strength in samples.wrong_strengths(book):
                for tests in ([], None, [None]):
                    for asked in WITHOUT:
                        self.refuse(BadStrength, asked, book, strength, tests)
                    for asked in WITH_RESULTS:
                        for results in ([], None, [None]):
                            self.refuse(BadStrength, asked, book, strength, tests, results)

    def test_whatever_is_no_book(self):
        for book in samples.wrong_books():
            for strength, tests, results in ((1, [], []), (0, [], []), (1, None, []), (1, [], None), (None, None, 1)):
                for asked in WITHOUT:
                    self.refuse(BadBook, asked, book, strength, tests)
                for asked in WITH_RESULTS:
                    self.refuse(BadBook, asked, book, strength, tests, results)


class Suspects(unittest.TestCase):
    def test_without_tests_all_that_is_possible(self):
        for book in samples.GOOD_BOOKS + [samples.NO_TEST]:
            for strength in samples.strengths(book):
                self.assertEqual(suspects(book, strength, [], []), samples.plain_possible(book, strength))

    def test_some(self):
        self.assertEqual(suspects(SQUARE, 1, [(0, 0)], [False]), [((0, 0),), ((1, 0),)])
        self.assertEqual(suspects(SQUARE, 1, [(0, 0)], [True]), [((0, 1),), ((1, 1),)])
        self.assertEqual(suspects(SQUARE, 1, [(0, 0), (0, 1)], [False, True]), [((1, 0),)])
        self.assertEqual(suspects(SQUARE, 1, [(0, 0), (0, 1)], [False, False]), [((0, 0),)])
        self.assertEqual(suspects(SQUARE, 1, [(0, 0), (1, 1)], [True, True]), [])
        self.assertEqual(suspects(CUBE, 2, [(0, 0, 0), (0, 0, 1)], [False, False]), [((0, 0), (1, 0))])
        self.assertEqual(
            suspects(CUBE, 2, [(0, 0, 0), (0, 0, 1)], [True, False]), [((0, 0), (2, 1)), ((1, 0), (2, 1))]
        )

    def test_what_is_impossible_is_no_suspect(self):
        book = ((2, 2), (((0, 0), (1, 1)),))
        self.assertEqual(suspects(book, 2, [(0, 0)], [True]), [((0, 1), (1, 0)), ((0, 1), (1, 1))])
        self.assertEqual(suspects(samples.NO_TEST, 1, [], []), [])

    def test_the_same_test_twice(self):
        tests = [(0, 0), (0, 0)]
        self.assertEqual(suspects(SQUARE, 1, tests, [False, False]), [((0, 0),), ((1, 0),)])
        self.assertEqual(suspects(SQUARE, 1, tests, [False, True]), [])
        self.assertEqual(suspects(SQUARE, 1, tests, [True, False]), [])

    def test_like_the_plain_way(self):
        chance = random.Random(11)
        for book, strength, tests in asked_about(samples.LESSER_BOOKS + samples.drawn_books(60), 4):
            for results in results_for(book, strength, tests, chance):
                with self.subTest(book=book, strength=strength, tests=tests, results=results):
                    told = suspects(book, strength, tests, results)
                    self.assertEqual(told, plain_suspects(book, strength, tests, results))
                    self.assertEqual(told, sorted(told))


class NextTest(unittest.TestCase):
    def test_halves(self):
        # (0, 0) meets 2 of the 4 settings, and so does each other test: the first of all is told.
        self.assertEqual(next_test(SQUARE, 1, [], []), (0, 0))
        self.assertEqual(next_test(SQUARE, 1, [(0, 0)], [True]), (0, 1))
        self.assertEqual(next_test(SQUARE, 1, [(0, 0)], [False]), (0, 1))

    def test_the_least_of_the_greater_ones(self):
        # Suspects (0, 0) and (1, 0) and (2, 0): (0, 0, 1) meets two of them, (0, 1, 1) one, (0, 0, 0) all.
        self.assertEqual(suspects(CUBE, 1, [(0, 0, 0)], [False]), [((0, 0),), ((1, 0),), ((2, 0),)])
        self.assertEqual(next_test(CUBE, 1, [(0, 0, 0)], [False]), (0, 0, 1))
        # One suspect more or less on the side that the test meets is as good: 4 of 9 go ahead of 6 of 9.
        book = ((4, 3, 2), ())
        self.assertEqual(next_test(book, 1, [], []), plain_next(book, samples.plain_possible(book, 1)))

    def test_of_several_the_first_of_all(self):
        self.assertEqual(next_test(((3,), ()), 1, [], []), (0,))
        self.assertEqual(next_test(((3,), (((0, 0),),)), 1, [], []), (1,))
        self.assertEqual(next_test(((4,), ()), 1, [(2,), (0,)], [True, True]), (1,))

    def test_none(self):
        self.assertIsNone(next_test(SQUARE, 1, [(0, 0), (0, 1)], [False, True]))
        self.assertIsNone(next_test(SQUARE, 1, [(0, 0), (1, 1)], [True, True]))
        self.assertIsNone(next_test(((1, 1, 1), ()), 1, [], []))
        self.assertIsNone(next_test(((1, 1, 1), ()), 2, [(0, 0, 0)], [False]))
        self.assertIsNone(next_test(samples.NO_TEST, 1, [], []))
        # Each test meets both or neither of the two that are left.
        book = ((2, 2), (((0, 0), (1, 1)), ((0, 1), (1, 0))))
        self.assertEqual(suspects(book, 1, [(0, 0)], [False]), [((0, 0),), ((1, 0),)])
        self.assertIsNone(next_test(book, 1, [(0, 0)], [False]))

    def test_like_the_plain_way(self):
        chance = random.Random(12)
        nones = 0
        for book, strength, tests in asked_about(samples.drawn_books(60) + samples.drawn_small_books(30), 4):
            for results in results_for(book, strength, tests, chance):
                with self.subTest(book=book, strength=strength, tests=tests, results=results):
                    wanted = plain_next(book, plain_suspects(book, strength, tests, results))
                    self.assertEqual(next_test(book, strength, tests, results), wanted)
                    nones += wanted is None
        self.assertGreater(nones, 100)

    def test_large_books(self):
        for book in samples.GOOD_BOOKS[-4:]:
            tests = samples.plain_tests(book)[::60]
            for strength in (1, 2, 3):
                for fault in samples.plain_possible(book, strength)[::50]:
                    results = plain_results(tests, fault)
                    found = plain_suspects(book, strength, tests, results)
                    self.assertEqual(suspects(book, strength, tests, results), found)
                    self.assertEqual(next_test(book, strength, tests, results), plain_next(book, found))


class Blurred(unittest.TestCase):
    def test_without_tests_all_are_alike(self):
        for book in (SQUARE, CUBE, ((2, 3), (((0, 1), (1, 2)),))):
            for strength in samples.strengths(book):
                self.assertEqual(blurred(book, strength, []), [samples.plain_possible(book, strength)])

    def test_one_alone_is_not_blurred(self):
        self.assertEqual(blurred(((1,), ()), 1, []), [])
        self.assertEqual(blurred(((1,), ()), 1, [(0,)]), [])
        self.assertEqual(blurred(samples.NO_TEST, 1, []), [])
        self.assertEqual(blurred(SQUARE, 1, [(0, 0), (0, 1)]), [])

    def test_some(self):
        self.assertEqual(blurred(SQUARE, 1, [(0, 1)]), [[((0, 0),), ((1, 1),)], [((0, 1),), ((1, 0),)]])
        self.assertEqual(blurred(SQUARE, 1, [(0, 1), (0, 1)]), [[((0, 0),), ((1, 1),)], [((0, 1),), ((1, 0),)]])
        self.assertEqual(blurred(((3,), ()), 1, [(1,)]), [[((0, 0),), ((0, 2),)]])
        self.assertEqual(
            blurred(((1, 1, 2), ()), 2, [(0, 0, 0), (0, 0, 1)]),
            [[((0, 0), (2, 0)), ((1, 0), (2, 0))], [((0, 0), (2, 1)), ((1, 0), (2, 1))]],
        )

    def test_like_the_plain_way(self):
        for book, strength, tests in asked_about(samples.LESSER_BOOKS + samples.drawn_books(100), 5):
            with self.subTest(book=book, strength=strength, tests=tests):
                told = blurred(book, strength, tests)
                self.assertEqual(told, plain_blurred(book, strength, tests))
                self.assertEqual({type(group) for group in told} - {list}, set())


class MostLooked(unittest.TestCase):
    def test_some(self):
        self.assertEqual(most_looked(SQUARE, 1, []), 2)
        self.assertEqual(most_looked(SQUARE, 1, [(0, 0)]), 1)
        self.assertEqual(most_looked(SQUARE, 1, [(0, 0), (0, 1)]), 0)
        # Each test meets one of the four pairs: three are looked for, the last one is known by the others.
        self.assertEqual(most_looked(SQUARE, 2, []), 3)
        self.assertEqual(most_looked(((4,), ()), 1, []), 3)
        self.assertEqual(most_looked(((4,), ()), 1, [(1,), (1,), (3,)]), 1)

    def test_nothing_to_look_for(self):
        self.assertEqual(most_looked(((1, 1, 1), ()), 2, []), 0)
        self.assertEqual(most_looked(samples.NO_TEST, 1, []), 0)
        self.assertEqual(most_looked(((1,), (((0, 0),),)), 1, []), 0)
        for book in samples.GOOD_BOOKS:
            for strength in samples.strengths(book):
                told = most_looked(book, strength, samples.plain_tests(book))
                self.assertEqual((type(told), told), (int, 0))

    def test_like_the_plain_way(self):
        for book, strength, tests in asked_about(samples.drawn_books(40) + samples.drawn_small_books(10), 3):
            with self.subTest(book=book, strength=strength, tests=tests):
                self.assertEqual(most_looked(book, strength, tests), plain_most_looked(book, strength, tests))

    def test_the_greatest_books_do_not_take_long(self):
        for levels in ((4, 4, 4, 3, 2, 1), (3, 3, 3, 3, 2, 2), (4, 4, 3, 2, 2, 2)):
            for strength in (1, 2, 3):
                begin = time.perf_counter()
                self.assertGreater(most_looked((levels, ()), strength, []), 4)
                self.assertLess(most_looked((levels, ()), strength, built((levels, ()), strength)), 6)
                self.assertLess(time.perf_counter() - begin, 5)


class NothingChanges(unittest.TestCase):
    def test_what_is_handed_in_stays_and_lists_are_new(self):
        chance = random.Random(13)
        for book, strength, tests in asked_about(samples.LESSER_BOOKS, 2):
            results = results_for(book, strength, tests, chance)[-1]
            before = copy.deepcopy((book, tests, results))
            told = suspects(book, strength, tests, results)
            lists = blurred(book, strength, tests)
            first = copy.deepcopy((told, lists))
            for group in lists:
                group.clear()
            told.clear()
            lists.clear()
            next_test(book, strength, tests, results)
            most_looked(book, strength, tests)
            self.assertEqual((book, tests, results), before)
            self.assertEqual((suspects(book, strength, tests, results), blurred(book, strength, tests)), first)


if __name__ == "__main__":
    unittest.main()
