"""What several test files use: books, things that are none, and plain second answers to compare with."""

import functools
import itertools
import operator
import random
import unittest

from pairtests.errors import BadTests, TestError

NAN = float("nan")

# Things of many kinds, none of them a whole number, a tuple or a list.
ODD_THINGS = [
    None, True, False, "", "1", "ab", 0.0, 1.0, 2.5, NAN, 1j, b"ab", {}, {0: 0}, {1, 2}, frozenset(), object(),
    len, int, range(2), Exception("x"),
]

NO_NUMBERS = ODD_THINGS + [(), (1,), [], [1]]

NO_TUPLES = ODD_THINGS + [[], [1], -1, 0, 1, 2, 10 ** 30]

NO_LISTS = ODD_THINGS + [(), ((0, 0, 0),), ((0, 0, 0), (1, 1, 1)), (0, 0, 0), -1, 0, 1, 2, 10 ** 30]

GOOD_BOOKS = [
    ((1,), ()),
    ((4,), ()),
    ((2,), (((0, 0),),)),
    ((1,), (((0, 0),),)),
    ((2, 2), ()),
    ((2, 3), (((0, 1), (1, 2)),)),
    ((2, 2, 2), (((0, 0), (1, 0), (2, 0)),)),
    ((2, 2, 2), (((0, 0), (1, 1)), ((0, 0), (1, 1)))),
    ((3, 2, 2), (((0, 0), (1, 0)), ((0, 0), (1, 1)))),
    ((3, 2, 2), (((0, 2),), ((0, 2), (1, 0)), ((0, 2), (1, 0), (2, 1)))),
    ((2, 2, 2), (((1, 0),), ((1, 1),))),
    ((1, 1, 1, 1, 1, 1), ()),
    ((4, 4, 4, 3, 2, 1), ()),
    ((4, 4, 4, 3, 2), (((0, 3), (2, 3), (4, 1)),)),
    ((3, 3, 3, 3, 2, 2), (((0, 0), (5, 1)), ((3, 2),))),
    ((2, 3, 1, 4), (((0, 1), (2, 0)),) * 12),
]

# Those of them that a slow plain way can be gone for.
LESSER_BOOKS = GOOD_BOOKS[:12] + GOOD_BOOKS[-1:]

NO_TEST = ((2, 2, 1), (((0, 0),), ((0, 1),)))

# Just 24 tests: without bans, with one, and of 384 rows.
JUST_SMALL = [
    ((4, 3, 2), ()), ((2, 2, 2, 3), ()), ((1, 2, 1, 4, 3), ()), ((3, 3, 3), (((0, 0), (1, 0)),)),
    ((2, 2, 2, 2, 2), (((0, 0), (1, 0)),)),
    ((4, 4, 4, 3, 2, 1), (((0, 1),), ((0, 2),), ((0, 3),), ((1, 0),), ((1, 1),), ((1, 3),))),
]

THREES = (((0, 0), (1, 0), (2, 0)), ((0, 1), (1, 1), (2, 1)))

# Just 25 tests, of 27 and of 324 rows.
JUST_TOO_BIG = [
    ((3, 3, 3), THREES),
    ((3, 3, 3, 4, 3), THREES + (((3, 0),), ((3, 1),), ((3, 2),), ((4, 0),), ((4, 2),))),
]

# Strength 2 takes more tests here than there are meetings apart: what is apart does not tell how many are the fewest.
WITH_A_GAP = [
    ((2, 2, 2, 2), ()), ((2, 2, 2, 2), (((0, 1), (1, 0), (2, 1)),)),
    ((2, 2, 2, 2), (((0, 0), (2, 0), (3, 1)), ((0, 1), (1, 0), (3, 0)))), ((3, 2, 2, 1, 1, 2), (((0, 1), (4, 0)),)),
    ((2, 3, 2, 2), (((1, 2), (3, 0)), ((0, 0), (2, 0), (3, 1)), ((0, 1), (1, 1), (2, 1)))),
]

# Strength 2 takes 6 tests here, and only 4 meetings are apart.
WITH_A_WIDE_GAP = ((2, 2, 2, 2, 2), (((0, 1), (1, 1), (4, 1)), ((0, 0), (1, 1), (4, 0))))

# Strength 2 takes 12 tests here, and only 9 meetings are apart.
WITH_A_WIDER_GAP = ((3, 2, 2, 2, 4), (
    ((0, 0), (2, 0)), ((0, 2),), ((1, 0), (2, 1), (3, 1)), ((0, 1), (1, 1), (2, 1)), ((0, 0), (2, 1), (3, 0)),
    ((1, 0), (2, 0), (3, 0)),
))


def wrong_levels():
    beyond = [
        (), (1,) * 7, (0,), (5,), (-1,), (2, 0), (2, 5), (2, -2), (10 ** 30,), (2, 10 ** 30),
        (4, 4, 3, 3, 3), (4, 3, 3, 3, 2, 2), (4, 4, 4, 4, 2), (4,) * 6, (1,) * 1000,
    ]
    return beyond + NO_TUPLES + [(2, odd) for odd in NO_NUMBERS] + [(odd, 2) for odd in NO_NUMBERS]


def wrong_pairs():
    """What is no setting of a book with the levels (2, 3, 2)."""
    beyond = [
        (), (0,), (0, 0, 0), (3, 0), (-1, 0), (0, 2), (1, 3), (2, 2), (0, -1), (10 ** 30, 0), (0, 10 ** 30),
        ((0, 0),), [0, 0],
    ]
    return beyond + NO_TUPLES + [(0, odd) for odd in NO_NUMBERS] + [(odd, 0) for odd in NO_NUMBERS]


def wrong_bans():
    """What is no ban of a book with the levels (2, 3, 2)."""
    beyond = [
        (), (0, 0), [(0, 0)], ((1, 0), (0, 0)), ((0, 0), (0, 0)), ((0, 0), (0, 1)), ((2, 0), (1, 0)),
        ((0, 0), (2, 0), (1, 0)), ((0, 0), (1, 0), (1, 0)), ((0, 0), (1, 0), (0, 0)),
        ((0, 0), (1, 0), (2, 0), (3, 0)), ((0, 0), (1, 0), (2, 0), (2, 1)),
    ]
    firsts = [(pair,) for pair in wrong_pairs()]
    lasts = [((0, 1), (1, 2), pair) for pair in wrong_pairs()]
    return beyond + NO_TUPLES + firsts + lasts


def wrong_books():
    levels = (2, 3, 2)
    ban = ((0, 0),)
    books = [(), (levels,), (levels, (), ()), (levels, (), None), [levels, ()], ((), levels), (list(levels), ())]
    books += [(levels, (ban,) * 13), (levels, (ban,) * 1000), (levels, [ban]), (levels, ban), (levels, [])]
    # Four settings, one each of four things that the book does have.
    books += [((2, 2, 2, 2), (((0, 0), (1, 0), (2, 0), (3, 0)),))]
    books += NO_TUPLES
    books += [(thing, ()) for thing in wrong_levels()]
    books += [(levels, thing) for thing in NO_TUPLES]
    books += [(levels, (thing,)) for thing in wrong_bans()]
    books += [(levels, (ban, thing)) for thing in wrong_bans()]
    return books


def wrong_strengths(book):
    beyond = [number for number in (2, 3) if number > len(book[0])]
    return beyond + [0, 4, 5, 6, 7, -1, -2, -3, 10 ** 30, -10 ** 30] + NO_NUMBERS


# The book that wrong_rows speaks of.
ROWS_BOOK = ((2, 3, 2), (((0, 1), (1, 2)), ((0, 0), (1, 0), (2, 1))))


def wrong_rows():
    """What is no test of ROWS_BOOK: no row, or one that meets a ban."""
    beyond = [
        (), (0,), (0, 0), (0, 0, 0, 0), (0, 0, 0, None), (2, 0, 0), (0, 3, 0), (0, 0, 2), (-1, 0, 0), (0, -1, 0),
        (0, 0, -1), (10 ** 30, 0, 0), (0, 0, -10 ** 30), [], [0, 0, 0], ((0, 0), (1, 0), (2, 0)), ((0, 0, 0),),
        [(0, 0, 0)], "000",
    ]
    banned = [(1, 2, 0), (1, 2, 1), (0, 0, 1)]
    # 1.0 and True are the same as 1 to Python, and (1, 1.0, True) the same as a test: it is none even so.
    alike = [(True, 0, 0), (0, False, 0), (0, 0, False), (1, 1, True), (1.0, 0, 0), (0, 0.0, 0), (1, 1.0, True)]
    odd = [(odd, 0, 0) for odd in NO_NUMBERS] + [(0, 0, odd) for odd in NO_NUMBERS]
    return beyond + banned + alike + odd + NO_TUPLES


def strengths(book):
    return [number for number in (1, 2, 3) if number <= len(book[0])]


def plain_meets(row, meeting):
    return all(row[thing] == setting for thing, setting in meeting)


def plain_tests(book):
    rows = itertools.product(*[range(level) for level in book[0]])
    return sorted(row for row in rows if not any(plain_meets(row, ban) for ban in book[1]))


def plain_meetings(book, many):
    found = []
    for things in itertools.combinations(range(len(book[0])), many):
        for settings in itertools.product(*[range(book[0][thing]) for thing in things]):
            found.append(tuple(zip(things, settings)))
    return sorted(found)


def plain_possible(book, many):
    tests = plain_tests(book)
    return [meeting for meeting in plain_meetings(book, many) if any(plain_meets(row, meeting) for row in tests)]


def plain_impossible(book, many):
    tests = plain_tests(book)
    return [meeting for meeting in plain_meetings(book, many) if not any(plain_meets(row, meeting) for row in tests)]


def plain_whole_bans(book):
    every = [meeting for many in strengths(book) for meeting in plain_impossible(book, many)]
    whole = [one for one in every if not any(set(other) < set(one) for other in every)]
    return sorted(whole, key=lambda meeting: (len(meeting), meeting))


def plain_met(tests, strength):
    """The meetings that some of these tests meet."""
    met = set()
    for row in tests:
        met.update(itertools.combinations(enumerate(row), strength))
    return met


def plain_missing(book, strength, tests):
    met = plain_met(tests, strength)
    return [meeting for meeting in plain_possible(book, strength) if meeting not in met]


def without(tests, place):
    return tests[:place] + tests[place + 1:]


def plain_needless(strength, tests):
    met = plain_met(tests, strength)
    return [place for place in range(len(tests)) if plain_met(without(tests, place), strength) == met]


def plain_trimmed(strength, tests):
    left = list(tests)
    for place in reversed(range(len(tests))):
        others = without(left, place)
        if plain_met(others, strength) == plain_met(left, strength):
            left = others
    return left


def plain_in_order(strength, tests):
    left = list(tests)
    order = []
    while left:
        ahead = plain_met(order, strength)
        gains = [len(plain_met([row], strength) - ahead) for row in left]
        order.append(left.pop(gains.index(max(gains))))
    return order


def some_cover(book, strength, many):
    """Whether some choice of just so many tests is a cover; what each test meets is held as the bits of a number."""
    meetings = plain_possible(book, strength)
    met = [
        sum(1 << place for place, meeting in enumerate(meetings) if plain_meets(row, meeting))
        for row in plain_tests(book)
    ]
    whole = (1 << len(meetings)) - 1
    return any(functools.reduce(operator.or_, chosen, 0) == whole for chosen in itertools.combinations(met, many))


def plain_fewest(book, strength):
    """How many tests the fewest are, by trying all choices, fewer ones first."""
    return next(many for many in itertools.count() if some_cover(book, strength, many))


def are_apart(meetings, tests):
    return all(sum(plain_meets(row, meeting) for meeting in meetings) <= 1 for row in tests)


def refusal(asked, *given):
    """The refusal that this call ends with."""
    try:
        asked(*given)
    except TestError as error:
        return error
    raise AssertionError("nothing was refused")


class Asking(unittest.TestCase):
    def refuse(self, kind, asked, *given):
        error = refusal(asked, *given)
        self.assertIs(type(error), kind, (asked.__name__, repr(given)[:300]))
        return error

    def refuse_tests(self, at, asked, *given):
        error = self.refuse(BadTests, asked, *given)
        self.assertEqual((type(error.at), error.at), (int, at), (asked.__name__, repr(given)[:300]))


def drawn_ban(levels, chance):
    things = sorted(chance.sample(range(len(levels)), chance.randint(1, min(3, len(levels)))))
    return tuple((thing, chance.randrange(levels[thing])) for thing in things)


def drawn_book(chance):
    levels = tuple(chance.randint(1, 3) for thing in range(chance.randint(1, 4)))
    bans = tuple(drawn_ban(levels, chance) for ban in range(chance.randint(0, 12)))
    return (levels, bans)


def drawn_books(many):
    """The same books each time: the draw begins from a fixed number."""
    chance = random.Random(2)
    return [drawn_book(chance) for step in range(many)]


def drawn_small_books(many):
    """Books of 6 to 16 tests, with few bans, so that covers of them take some choosing."""
    chance = random.Random(3)
    found = []
    while len(found) < many:
        levels = tuple(chance.choice((1, 2, 2, 2, 3)) for thing in range(chance.randint(2, 5)))
        book = (levels, tuple(drawn_ban(levels, chance) for ban in range(chance.randint(0, 5))))
        if 6 <= len(plain_tests(book)) <= 16:
            found.append(book)
    return found


def drawn_tests(book, many):
    """Several lists of tests of the book, some of them the same one more than once."""
    chance = random.Random(5)
    every = plain_tests(book)
    lists = [[], list(every), list(reversed(every)), every + every]
    for step in range(many if every else 0):
        lists.append([chance.choice(every) for place in range(chance.randint(1, 12))])
    return lists
