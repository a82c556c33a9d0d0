import copy
import functools
import itertools
import random
import time
import unittest

import samples
from pairtests.errors import BadBook, BadNumber, BadStrength, TooBig
from pairtests.papers import is_paper, paper

LINE = ((2,), ())
SQUARE = ((2, 2), ())
CUBE = ((2, 2, 2), ())
FOUR = ((2, 2, 2, 2), ())
BANNED = ((2, 3, 2), (((0, 1), (1, 2)), ((0, 0), (1, 0), (2, 1))))
LARGE = ((4, 4, 4, 3, 2, 1), (((0, 0), (1, 0)),))

WRONG_NUMBERS = [-1, 31, 32, -2, -30, 10 ** 30, -10 ** 30] + samples.NO_NUMBERS

# For CUBE at strength 2: four meetings that are apart, a tree of no test and one of a single test.
APART = ("apart", [((0, 0), (1, 0)), ((0, 0), (1, 1)), ((0, 1), (1, 0)), ((0, 1), (1, 1))])
LEAF = (((1, 0), (2, 0)), ())
ROW_TREE = (((0, 0), (1, 0)), (
    ((0, 0, 0), (((0, 0), (1, 1)), ())),
    ((0, 0, 1), (((1, 0), (2, 0)), ())),
))

possible_of = functools.lru_cache(None)(samples.plain_possible)
tests_of = functools.lru_cache(None)(samples.plain_tests)


@functools.lru_cache(None)
def written_possible(book, strength):
    """Written out, (0, True), (0, 1.0) and [0, 1] are others than (0, 1)."""
    return {repr(meeting) for meeting in possible_of(book, strength)}


def is_pair(thing):
    return type(thing) is tuple and len(thing) == 2


def plain_is_tree(book, strength, many, taken, thing):
    if not is_pair(thing) or repr(thing[0]) not in written_possible(book, strength) or type(thing[1]) is not tuple:
        return False
    meeting, rows = thing
    if any(samples.plain_meets(row, meeting) for row in taken):
        return False
    if len(taken) == many:
        return len(rows) == 0
    wanted = [row for row in tests_of(book) if samples.plain_meets(row, meeting)]
    if not all(is_pair(row) for row in rows) or repr([row[0] for row in rows]) != repr(wanted):
        return False
    return all(plain_is_tree(book, strength, many, taken + [test], tree) for test, tree in rows)


def plain_is_paper(book, strength, many, thing):
    if not is_pair(thing) or type(thing[0]) is not str:
        return False
    if thing[0] == "tree":
        return plain_is_tree(book, strength, many, [], thing[1])
    if thing[0] != "apart" or type(thing[1]) is not list or len(thing[1]) <= many:
        return False
    written = [repr(meeting) for meeting in thing[1]]
    return set(written) <= written_possible(book, strength) and samples.are_apart(thing[1], tests_of(book))


def plain_tree(book, strength, many, taken, chance):
    """A tree with any unmet meeting at each place, or None where the tests taken are a cover."""
    unmet = [one for one in possible_of(book, strength) if not any(samples.plain_meets(row, one) for row in taken)]
    if not unmet:
        return None
    meeting = chance.choice(unmet)
    rows = []
    if len(taken) < many:
        for test in [row for row in tests_of(book) if samples.plain_meets(row, meeting)]:
            tree = plain_tree(book, strength, many, taken + [test], chance)
            if tree is None:
                return None
            rows.append((test, tree))
    return (meeting, tuple(rows))


def drawn_trees(book, strength, many, times):
    trees = [plain_tree(book, strength, many, [], random.Random(seed)) for seed in range(times)]
    return [("tree", tree) for tree in trees if tree is not None]


def all_apart(book, strength, many):
    """Every choice of one more meeting than there are tests, and of two more, that are apart."""
    found = []
    for more in (1, 2):
        for chosen in itertools.combinations(possible_of(book, strength), many + more):
            if samples.are_apart(chosen, tests_of(book)):
                found.append(("apart", list(chosen)))
    return found


def others(part):
    """Other things in the place of a part of a paper."""
    found = [None, True, False, 0, 1, -1, 2.0, "", "x", (), [], {}, (None,), [[]]]
    if isinstance(part, (tuple, list)):
        kind = type(part)
        found += [tuple(part) if kind is list else list(part), kind([part]), part + part[:1], part + kind([None])]
        found += [kind(reversed(part)), part + part, dict(enumerate(part)), str(part)]
        for place in range(len(part)):
            found += [part[:place] + part[place + 1:], part[:place + 1] + part[place:]]
            found += [part[:place] + part[place + 1:place + 2] + part[place:place + 1] + part[place + 2:]]
    elif isinstance(part, str):
        found += [part + " ", part.upper(), part[:-1], "apart", "tree", (part,), [part], part.encode()]
    else:
        found += [part + 1, part - 1, bool(part), float(part), str(part), (part,), 10 ** 30]
    return found


def changes(thing):
    """The thing with one of its parts, at any depth, changed."""
    yield from others(thing)
    if isinstance(thing, (tuple, list)):
        for place, part in enumerate(thing):
            for other in changes(part):
                yield thing[:place] + type(thing)([other]) + thing[place + 1:]


class Hostile:
    """Fails at whatever it is asked."""

    def fail(self, *given):
        raise RuntimeError

    __eq__ = __ne__ = __hash__ = __len__ = __iter__ = __bool__ = __getitem__ = __int__ = __index__ = __lt__ = fail


class Refusals(samples.Asking):
    def test_numbers_from_0_to_30(self):
        for book in (LINE, SQUARE, CUBE, samples.NO_TEST):
            for many in range(31):
                paper(book, 1, many)
                self.assertIs(is_paper(book, 1, many, None), False)

    def test_whatever_is_no_number(self):
        for book in (LINE, CUBE, samples.NO_TEST):
            for many in WRONG_NUMBERS:
                self.refuse(BadNumber, paper, book, 1, many)
                for thing in (None, [], ("apart", []), APART, Hostile()):
                    self.refuse(BadNumber, is_paper, book, 1, many, thing)
        for many in WRONG_NUMBERS:
            self.refuse(BadNumber, is_paper, LARGE, 1, many, None)

    def test_just_24_tests_are_let_by(self):
        for book in samples.JUST_SMALL:
            self.assertIsNotNone(paper(book, 1, 0))

    def test_25_tests_and_more_are_too_big_for_paper_alone(self):
        for book in samples.JUST_TOO_BIG + [LARGE, ((3, 3, 3), ()), ((4, 4, 4, 4), ())]:
            for strength in (1, 2, 3):
                for many in [0, 1, 30] + WRONG_NUMBERS:
                    self.refuse(TooBig, paper, book, strength, many)
                self.assertIs(is_paper(book, strength, 0, None), False)

    def test_whatever_is_no_strength(self):
        for book in [LINE, SQUARE, samples.NO_TEST, LARGE] + samples.JUST_TOO_BIG:
            for strength in samples.wrong_strengths(book):
                for many in (0, 30, -1, 31, True, None, "0", 1.0, [], ()):
                    self.refuse(BadStrength, paper, book, strength, many)
                    self.refuse(BadStrength, is_paper, book, strength, many, APART)

    def test_whatever_is_no_book(self):
        for book in samples.wrong_books():
            for strength, many in ((1, 0), (0, 0), (1, -1), (None, None), (True, True)):
                self.refuse(BadBook, paper, book, strength, many)
                self.refuse(BadBook, is_paper, book, strength, many, None)


class Paper(samples.Asking):
    def hold(self, book, strength, many, enough):
        told = paper(book, strength, many)
        with self.subTest(book=book, strength=strength, many=many):
            if many >= enough:
                self.assertIsNone(told)
            else:
                self.assertTrue(plain_is_paper(book, strength, many, told))
                self.assertIs(is_paper(book, strength, many, told), True)

    def test_every_number_from_0_to_30(self):
        for book in (LINE, SQUARE, CUBE, FOUR, BANNED, ((4, 3), ()), ((3, 2, 2), (((0, 2),),)), ((1, 1), ())):
            for strength in samples.strengths(book):
                enough = samples.plain_fewest(book, strength)
                for many in range(31):
                    self.hold(book, strength, many, enough)

    def test_told_just_where_no_so_many_are_a_cover(self):
        books = samples.GOOD_BOOKS + samples.drawn_books(60) + samples.drawn_small_books(40)
        for book in books + samples.WITH_A_GAP:
            if len(tests_of(book)) <= 16:
                for strength in samples.strengths(book):
                    enough = samples.plain_fewest(book, strength)
                    for many in {0, 1, enough // 2, enough - 2, enough - 1, enough, enough + 1, 30} - {-1, -2}:
                        self.hold(book, strength, many, enough)

    def test_books_of_just_24_tests(self):
        # Levels (4, 3, 2): each three of settings is one test. The others: how many tests is known otherwise.
        for book, strength, enough in (
            (((4, 3, 2), ()), 1, 4), (((4, 3, 2), ()), 2, 12), (((4, 3, 2), ()), 3, 24), (((2, 2, 2, 3), ()), 2, 6),
            (((2, 2, 2, 3), ()), 3, 12), (((1, 2, 1, 4, 3), ()), 2, 12), (((1, 2, 1, 4, 3), ()), 3, 24),
        ):
            for many in range(31):
                self.hold(book, strength, many, enough)

    def test_trees_where_too_few_meetings_are_apart(self):
        for book in samples.WITH_A_GAP:
            enough = samples.plain_fewest(book, 2)
            self.assertEqual(paper(book, 2, enough - 2)[0], "apart")
            self.assertEqual(paper(book, 2, enough - 1)[0], "tree")
            self.hold(book, 2, enough - 1, enough)

    def test_trees_where_far_too_few_are_apart(self):
        book = samples.WITH_A_WIDE_GAP
        self.assertEqual(samples.plain_fewest(book, 2), 6)
        self.assertEqual([paper(book, 2, many)[0] for many in range(6)], ["apart"] * 4 + ["tree"] * 2)
        for many in range(31):
            self.hold(book, 2, many, 6)
        book = samples.WITH_A_WIDER_GAP
        self.assertEqual([paper(book, 2, many)[0] for many in range(12)], ["apart"] * 9 + ["tree"] * 3)
        for many in range(31):
            self.hold(book, 2, many, 12)

    def test_a_book_without_a_test(self):
        for book, strength in ((samples.NO_TEST, 1), (samples.NO_TEST, 2), (samples.NO_TEST, 3)):
            for many in range(31):
                self.assertIsNone(paper(book, strength, many))
        self.assertIsNone(paper(((1,), (((0, 0),),)), 1, 0))

    def test_no_tests_are_no_cover_where_something_is_possible(self):
        self.assertEqual(paper(((1,), ()), 1, 0), ("apart", [((0, 0),)]))
        self.assertIsNone(paper(((1,), ()), 1, 1))

    def test_answers_come_soon(self):
        books = samples.JUST_SMALL + samples.WITH_A_GAP + [samples.WITH_A_WIDE_GAP, samples.WITH_A_WIDER_GAP]
        # Long trees: of 11 tests at strength 3, and of wide rows at strength 2.
        books = books + [((2, 2, 3, 3), (((2, 2), (3, 0)), ((2, 0), (3, 2)), ((2, 1), (3, 1))))]
        for book in books + samples.drawn_small_books(20):
            for strength in samples.strengths(book):
                for many in range(24):
                    begin = time.perf_counter()
                    told = paper(book, strength, many)
                    if told is not None:
                        self.assertIs(is_paper(book, strength, many, told), True)
                    self.assertLess(time.perf_counter() - begin, 5)

    def test_the_book_stays_and_the_lists_are_new(self):
        for book in (CUBE, BANNED, FOUR):
            before = copy.deepcopy(book)
            told = paper(book, 2, 2)
            told[1].clear()
            self.assertTrue(plain_is_paper(book, 2, 2, paper(book, 2, 2)))
            self.assertEqual(book, before)


class IsPaper(unittest.TestCase):
    def is_one(self, book, strength, many, thing):
        told = is_paper(book, strength, many, thing)
        self.assertIs(told, plain_is_paper(book, strength, many, thing), repr((book, strength, many, thing))[:500])
        return told

    def test_papers_written_by_hand(self):
        self.assertIs(is_paper(CUBE, 2, 3, APART), True)
        self.assertIs(is_paper(CUBE, 2, 2, APART), True)
        self.assertIs(is_paper(CUBE, 2, 0, APART), True)
        self.assertIs(is_paper(CUBE, 2, 4, APART), False)
        self.assertIs(is_paper(CUBE, 2, 1, ("tree", ROW_TREE)), True)
        self.assertIs(is_paper(CUBE, 2, 0, ("tree", LEAF)), True)
        self.assertIs(is_paper(((1,), ()), 1, 0, ("tree", (((0, 0),), ()))), True)
        self.assertIs(is_paper(((1,), ()), 1, 0, ("apart", [((0, 0),)])), True)

    def test_a_tree_that_goes_on_too_long_or_ends_too_soon(self):
        for many in (0, 2, 3, 30):
            self.assertIs(is_paper(CUBE, 2, many, ("tree", ROW_TREE)), False)
        for many in (1, 2, 30):
            self.assertIs(is_paper(CUBE, 2, many, ("tree", LEAF)), False)
        for book, strength in ((CUBE, 1), (CUBE, 2), (BANNED, 1), (BANNED, 2), (FOUR, 2)):
            for many in range(3):
                for tree in drawn_trees(book, strength, many, 4):
                    self.assertEqual([self.is_one(book, strength, number, tree) for number in range(5)], [
                        number == many for number in range(5)
                    ])

    def test_a_meeting_that_a_test_taken_meets(self):
        for meeting in ((0, 0), (1, 0)), ((0, 0), (2, 0)), ((1, 0), (2, 0)):
            tree = (((0, 0), (1, 0)), (((0, 0, 0), (meeting, ())), ((0, 0, 1), (((1, 0), (2, 0)), ()))))
            self.assertIs(is_paper(CUBE, 2, 1, ("tree", tree)), False)

    def test_a_test_taken_two_steps_ago_counts(self):
        third = (((0, 0), (1, 0)), ())
        chain = (((0, 0), (1, 0)), (((0, 0), (((0, 1), (1, 1)), (((1, 1), third),))),))
        self.assertIs(is_paper(SQUARE, 2, 2, ("tree", chain)), False)
        third = (((0, 1), (1, 0)), ())
        chain = (((0, 0), (1, 0)), (((0, 0), (((0, 1), (1, 1)), (((1, 1), third),))),))
        self.assertIs(is_paper(SQUARE, 2, 2, ("tree", chain)), True)

    def test_rows_left_out_doubled_and_turned(self):
        meeting, rows = ROW_TREE
        for wrong in (rows[:1], rows[1:], rows + rows[:1], rows[::-1], (), rows[:1] * 2, list(rows), None):
            self.assertIs(is_paper(CUBE, 2, 1, ("tree", (meeting, wrong))), False)

    def test_a_row_that_is_no_test(self):
        book = ((2, 2, 2), (((0, 0), (1, 0), (2, 1)),))
        self.assertIs(is_paper(book, 2, 1, ("tree", ROW_TREE)), False)
        self.assertIs(is_paper(book, 2, 1, ("tree", (ROW_TREE[0], ROW_TREE[1][:1]))), True)
        for row in ((0, 0, 2), (0, 0), (0, 0, 1, 0), (0, 0, True), [0, 0, 1], (0, 0, 1.0), None, "001"):
            rows = (ROW_TREE[1][0], (row, ROW_TREE[1][1][1]))
            self.assertIs(is_paper(CUBE, 2, 1, ("tree", (ROW_TREE[0], rows))), False)

    def test_meetings_that_are_not_possible(self):
        book = ((2, 2, 2), (((0, 0), (1, 0)),))
        self.assertIs(is_paper(book, 2, 2, ("apart", APART[1][1:])), True)
        self.assertIs(is_paper(book, 2, 2, APART), False)
        self.assertIs(is_paper(book, 2, 0, ("tree", (((0, 0), (1, 0)), ()))), False)
        self.assertIs(is_paper(book, 2, 0, ("apart", [((0, 0), (1, 0))])), False)
        for strength in (1, 2, 3):
            for thing in (("apart", []), ("apart", [((1, 0),)]), ("tree", (((1, 0),), ())), ("apart", [()])):
                self.assertIs(is_paper(samples.NO_TEST, strength, 0, thing), False)

    def test_meetings_of_another_strength(self):
        singles = ("apart", [((0, 0),), ((0, 1),)])
        self.assertEqual([is_paper(CUBE, strength, 1, singles) for strength in (1, 2, 3)], [True, False, False])
        self.assertEqual([is_paper(CUBE, strength, 1, APART) for strength in (1, 2, 3)], [False, True, False])
        mixed = ("apart", [((0, 0), (1, 0)), ((0, 1),), ((0, 0), (1, 1))])
        self.assertIs(is_paper(CUBE, 2, 1, mixed), False)
        self.assertEqual([is_paper(CUBE, s, 0, ("tree", LEAF)) for s in (1, 2, 3)], [False, True, False])

    def test_too_few_meetings_and_not_apart(self):
        for many in range(6):
            for length in range(5):
                thing = ("apart", APART[1][:length])
                self.assertIs(is_paper(CUBE, 2, many, thing), length > many)
        self.assertIs(is_paper(CUBE, 2, 0, ("apart", [])), False)
        self.assertIs(is_paper(CUBE, 2, 1, ("apart", [((0, 0), (1, 0)), ((0, 0), (2, 0))])), False)
        self.assertIs(is_paper(CUBE, 2, 1, ("apart", [((0, 0), (1, 0)), ((0, 0), (1, 0))])), False)
        # One test meets the first and the last, the others are apart.
        apart = [((0, 0), (1, 0)), ((0, 1), (1, 0)), ((0, 0), (2, 0))]
        self.assertIs(is_paper(CUBE, 2, 1, ("apart", apart)), False)
        # No test meets both where a ban stands against it.
        book = ((2, 2, 2), (((0, 0), (1, 0), (2, 0)),))
        self.assertIs(is_paper(book, 2, 1, ("apart", [((0, 0), (1, 0)), ((0, 0), (2, 0))])), True)

    def test_meetings_that_are_apart_in_any_order(self):
        for order in itertools.permutations(APART[1]):
            self.assertIs(is_paper(CUBE, 2, 3, ("apart", list(order))), True)

    def test_papers_made_in_a_plain_way(self):
        for book in (LINE, SQUARE, CUBE, BANNED, ((3, 2, 2), (((0, 2), (1, 1)),))):
            for strength in samples.strengths(book):
                for many in range(3):
                    for thing in all_apart(book, strength, many)[:200] + drawn_trees(book, strength, many, 10):
                        self.assertIs(is_paper(book, strength, many, thing), True, (book, strength, many, thing))
        for many in range(5):
            for thing in drawn_trees(FOUR, 2, many, 2):
                self.assertIs(is_paper(FOUR, 2, many, thing), True)

    def test_there_is_none_where_so_many_are_enough(self):
        for book in (LINE, SQUARE, CUBE, BANNED):
            for strength in samples.strengths(book):
                enough = samples.plain_fewest(book, strength)
                for many in range(enough):
                    thing = paper(book, strength, many)
                    for more in range(enough, 31):
                        self.assertIs(is_paper(book, strength, more, thing), False)

    def test_every_part_changed(self):
        told = []
        for book, strength, many in (
            (LINE, 1, 0), (LINE, 1, 1), (SQUARE, 1, 0), (SQUARE, 1, 1), (SQUARE, 2, 1), (SQUARE, 2, 3), (CUBE, 2, 1),
            (BANNED, 2, 1), (BANNED, 3, 2), (((3,), ()), 1, 2), (CUBE, 1, 1),
        ):
            papers = all_apart(book, strength, many)[:2] + drawn_trees(book, strength, many, 2)
            self.assertGreater(len(papers), 1)
            for thing in papers:
                for changed in changes(thing):
                    told.append(self.is_one(book, strength, many, changed))
        self.assertGreater(told.count(True), 20)
        self.assertGreater(told.count(False), 5000)

    def test_a_number_of_another_kind_anywhere(self):
        for number in (True, False, 0.0, 1.0, "0", "1", None, (0,), [1]):
            wrong = ("apart", [((0, number), (1, 0)), ((0, 0), (1, 1)), ((0, 1), (1, 0)), ((0, 1), (1, 1))])
            self.assertIs(is_paper(CUBE, 2, 1, wrong), False)
            wrong = ("apart", [((number, 0), (1, 0))])
            self.assertIs(is_paper(CUBE, 2, 0, wrong), False)
            self.assertIs(is_paper(CUBE, 2, 0, ("tree", (((0, number), (1, 0)), ()))), False)

    def test_things_of_any_kind(self):
        endless = []
        endless.append(endless)
        deep = ()
        for step in range(5000):
            deep = (deep, deep)
        things = samples.NO_LISTS + [endless, deep, Hostile(), [], [APART], list(APART), (APART,), APART + ((),)]
        for book, strength in ((LINE, 1), (CUBE, 2), (samples.NO_TEST, 3), (LARGE, 2)):
            for thing in things:
                for whole in (
                    thing, (thing,), (thing, thing), ("apart", thing), ("tree", thing), ("apart", [thing]),
                    ("tree", (thing, ())), ("tree", (((0, 0), (1, 0)), thing)), (thing, APART[1]), ("apart",),
                    ("apart", (thing,)), ("tree", (thing, thing)), ("tree", (((0, 0), (1, 0)), (thing,))),
                    ("apart", [(thing,)]), ("apart", [((thing, thing),)]), ("tree", (((0, 0), (1, thing)), ())),
                ):
                    self.assertIs(is_paper(book, strength, 1, whole), False)
                # With no test allowed nothing but the empty tuple stands behind a meeting.
                leaf = ("tree", (tuple((place, 0) for place in range(1, strength + 1)), thing))
                self.assertIs(is_paper(LARGE, strength, 0, leaf), thing == () if isinstance(thing, tuple) else False)

    def test_large_books(self):
        singles = ("apart", [((0, setting),) for setting in range(4)])
        self.assertEqual([is_paper(LARGE, 1, many, singles) for many in (0, 3, 4, 30)], [True, True, False, False])
        pairs = ("apart", [((1, 1 + one), (2, other)) for one in range(3) for other in range(4)])
        self.assertEqual([is_paper(LARGE, 2, many, pairs) for many in (0, 11, 12)], [True, True, False])
        banned = ("apart", pairs[1] + [((0, 0), (1, 0))])
        self.assertIs(is_paper(LARGE, 2, 1, banned), False)
        for many in range(3):
            for tree in drawn_trees(LARGE, 1, many, 1):
                self.assertIs(is_paper(LARGE, 1, many, tree), True)
                self.assertIs(is_paper(LARGE, 1, many + 1, tree), False)
        for tree in drawn_trees(samples.JUST_TOO_BIG[0], 2, 3, 3):
            self.assertIs(is_paper(samples.JUST_TOO_BIG[0], 2, 3, tree), True)

    def test_a_tree_of_thirty_tests(self):
        # In a book of three things each three of settings is one test, so the tree has a row at each step.
        book = ((4, 4, 4), ())
        meetings = samples.plain_possible(book, 3)
        tree = (meetings[30], ())
        for meeting in reversed(meetings[:30]):
            tree = (meeting, ((tuple(setting for thing, setting in meeting), tree),))
        self.assertIs(is_paper(book, 3, 30, ("tree", tree)), True)
        self.assertIs(is_paper(book, 3, 29, ("tree", tree)), False)
        self.assertIs(is_paper(book, 3, 29, ("tree", tree[1][0][1])), True)
        self.assertIs(is_paper(book, 3, 30, ("apart", meetings[:31])), True)
        self.assertIs(is_paper(book, 3, 30, ("apart", meetings[:30])), False)

    def test_what_is_handed_in_stays(self):
        for thing in [APART, ("apart", [((0, 0),)]), ["apart", APART[1]], ("tree", [ROW_TREE])]:
            before = copy.deepcopy(thing)
            is_paper(CUBE, 2, 2, thing)
            self.assertEqual(thing, before)


if __name__ == "__main__":
    unittest.main()
