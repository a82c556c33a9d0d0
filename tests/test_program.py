"""What the document promises over the whole program."""

import copy
import inspect
import unittest

import samples
from pairtests import books, building, covers, errors, faults, fewest, keeping, meetings, papers, texts
from pairtests.errors import BadBook, BadNumber, BadResults, BadStrength, BadTests, BadText, TestError, TooBig

KINDS = [BadBook, BadStrength, BadTests, BadNumber, BadResults, TooBig, BadText]

# The functions of the interface with their arguments.
INTERFACE = {
    books: {"checked": "book", "all_tests": "book"},
    meetings: {
        "all_meetings": "book strength", "possible": "book strength", "impossible": "book strength",
        "whole_bans": "book",
    },
    covers: {
        "missing": "book strength tests", "is_cover": "book strength tests", "needless": "book strength tests",
        "trimmed": "book strength tests", "in_order": "book strength tests",
    },
    building: {"built": "book strength"},
    fewest: {"fewest": "book strength", "apart": "book strength"},
    papers: {"paper": "book strength many", "is_paper": "book strength many thing"},
    keeping: {
        "with_setting": "book thing", "with_thing": "book settings", "with_ban": "book ban",
        "kept": "book strength tests", "lengthened": "tests setting",
    },
    faults: {
        "suspects": "book strength tests results", "next_test": "book strength tests results",
        "blurred": "book strength tests", "most_looked": "book strength tests",
    },
    texts: {"shown": "book", "read": "text"},
}

BOOK = ((2, 3, 2), (((0, 1), (1, 2)), ((0, 0), (1, 0), (2, 1))))
TESTS = [(0, 0, 0), (1, 1, 1), (0, 2, 1), (0, 0, 0)]
LARGE = ((3, 3, 3), ())
TWELVE = ((2, 2), (((0, 0), (1, 0)),) * 12)

# What each argument may be, and for each refusal in the interface's order what brings it about.
GOOD = {
    "book": BOOK, "strength": 2, "tests": TESTS, "many": 3, "thing": 1, "settings": 2, "ban": ((1, 1),), "setting": 3,
    "results": [True, False, True, True], "text": "settings 2 2\nban 0:1 1:0\n",
}
NONE = [None, True, -1, 99, "ab", [None], (), {0: 0}, 1.5]
BAD_BOOK = (BadBook, "book", [None, True, 2, "ab", [BOOK], (), {0: 0}, 1.5, ((2, 5), ())])
BAD_STRENGTH = (BadStrength, "strength", [0, 4] + NONE)
BAD_TESTS = (BadTests, "tests", NONE + [TESTS + [(1, 2)], TESTS + [(1, True, 0)]])
BAD_ROWS = (BadTests, "tests", NONE + [[(0, 100)], TESTS + [(0, -1)], TESTS + [(1, True, 0)]])
BAD_RESULTS = (BadResults, "results", NONE + [[True], [True, False, True, 1]])
REFUSALS = {
    books.checked: [BAD_BOOK], books.all_tests: [BAD_BOOK], meetings.whole_bans: [BAD_BOOK],
    meetings.all_meetings: [BAD_BOOK, BAD_STRENGTH], meetings.possible: [BAD_BOOK, BAD_STRENGTH],
    meetings.impossible: [BAD_BOOK, BAD_STRENGTH], covers.missing: [BAD_BOOK, BAD_STRENGTH, BAD_TESTS],
    covers.is_cover: [BAD_BOOK, BAD_STRENGTH, BAD_TESTS], covers.needless: [BAD_BOOK, BAD_STRENGTH, BAD_TESTS],
    covers.trimmed: [BAD_BOOK, BAD_STRENGTH, BAD_TESTS], covers.in_order: [BAD_BOOK, BAD_STRENGTH, BAD_TESTS],
    building.built: [BAD_BOOK, BAD_STRENGTH], fewest.fewest: [BAD_BOOK, BAD_STRENGTH, (TooBig, "book", [LARGE])],
    fewest.apart: [BAD_BOOK, BAD_STRENGTH, (TooBig, "book", [LARGE])],
    papers.paper: [BAD_BOOK, BAD_STRENGTH, (TooBig, "book", [LARGE]), (BadNumber, "many", [31] + NONE)],
    papers.is_paper: [BAD_BOOK, BAD_STRENGTH, (BadNumber, "many", [31] + NONE)],
    keeping.with_setting: [BAD_BOOK, (BadNumber, "thing", [3] + NONE), (TooBig, "book", [((1, 4, 1), ())])],
    keeping.with_thing: [BAD_BOOK, (BadNumber, "settings", [0, 5] + NONE), (TooBig, "book", [((1,) * 6, ())])],
    keeping.with_ban: [BAD_BOOK, (TooBig, "book", [TWELVE]), (BadBook, "ban", [((3, 0),)] + NONE)],
    keeping.kept: [BAD_BOOK, BAD_STRENGTH, BAD_ROWS],
    keeping.lengthened: [BAD_ROWS, (BadNumber, "setting", [4] + NONE)],
    faults.suspects: [BAD_BOOK, BAD_STRENGTH, BAD_TESTS, BAD_RESULTS],
    faults.next_test: [BAD_BOOK, BAD_STRENGTH, BAD_TESTS, BAD_RESULTS],
    faults.blurred: [BAD_BOOK, BAD_STRENGTH, BAD_TESTS], faults.most_looked: [BAD_BOOK, BAD_STRENGTH, BAD_TESTS],
    texts.shown: [BAD_BOOK], texts.read: [(BadText, "text", NONE + ["settings 2", "settings 5\n"])],
}


def functions():
    found = [(module, name, given) for module, names in INTERFACE.items() for name, given in names.items()]
    return [(getattr(module, name), given.split()) for module, name, given in found]


def wrong_calls():
    """Each function with one wrong thing for one of its arguments, and the refusal that it brings about."""
    for asked, told in REFUSALS.items():
        given = list(inspect.signature(asked).parameters)
        for kind, name, wrong in told:
            for thing in wrong:
                yield kind, thing, asked, [thing if one == name else GOOD[one] for one in given]


def emptied(thing):
    """Empties every list within a thing that was told."""
    if isinstance(thing, (list, tuple)):
        for part in thing:
            emptied(part)
    if isinstance(thing, list):
        thing.clear()


class Interface(unittest.TestCase):
    def test_names_and_arguments(self):
        for asked, given in functions():
            self.assertEqual(list(inspect.signature(asked).parameters), given, asked.__name__)
            self.assertEqual(asked(**{name: GOOD[name] for name in given}), asked(*[GOOD[name] for name in given]))

    def test_each_refusal_is_told_of(self):
        self.assertEqual({asked for asked, given in functions()}, set(REFUSALS))
        self.assertEqual({kind for told in REFUSALS.values() for kind, name, wrong in told}, set(KINDS))


class Refusals(samples.Asking):
    def test_each_is_taken_by_its_own_class_and_by_test_error_alone(self):
        for kind, thing, asked, arguments in wrong_calls():
            error = self.refuse(kind, asked, *arguments)
            self.assertIsInstance(error, TestError)
            self.assertIsInstance(error, ValueError)
            self.assertEqual([one for one in KINDS if isinstance(error, one)], [kind])

    def test_of_two_the_one_that_is_named_first(self):
        for asked, told in REFUSALS.items():
            given = list(inspect.signature(asked).parameters)
            for place, (kind, name, wrong) in enumerate(told):
                for later, later_name, later_wrong in told[place + 1:]:
                    if later_name != name:
                        for thing in wrong:
                            for other in later_wrong:
                                chosen = dict(GOOD, **{name: thing, later_name: other})
                                self.refuse(kind, asked, *[chosen[one] for one in given])

    def test_all_wrong_at_once(self):
        for asked, told in REFUSALS.items():
            given = list(inspect.signature(asked).parameters)
            for thing in (None, True, "ab", 1.5, {0: 0}):
                self.refuse(told[0][0], asked, *[thing for one in given])

    def test_at_is_the_place_and_no_other_has_one(self):
        for kind, thing, asked, arguments in wrong_calls():
            error = samples.refusal(asked, *arguments)
            self.assertEqual(hasattr(error, "at"), kind is BadTests)
            if kind is BadTests:
                # Wrong ones stand behind TESTS, or there are none of these ahead of them.
                ahead = isinstance(thing, list) and thing[:1] == TESTS[:1]
                self.assertEqual(error.at, len(TESTS) if ahead else 0)


class NothingKept(unittest.TestCase):
    def test_handed_in_stays_and_lists_emptied_are_told_whole_again(self):
        for asked, given in functions():
            arguments = [copy.deepcopy(GOOD[name]) for name in given]
            before = copy.deepcopy(arguments)
            first = asked(*arguments)
            kept = copy.deepcopy(first)
            if asked is not books.checked:
                emptied(first)
            self.assertEqual(arguments, before, asked.__name__)
            self.assertEqual(repr(asked(*arguments)), repr(kept), asked.__name__)
            self.assertEqual(repr(asked(*copy.deepcopy(before))), repr(kept), asked.__name__)

    def test_other_calls_between_change_nothing(self):
        first = [repr(asked(*[GOOD[name] for name in given])) for asked, given in functions()]
        again = [repr(asked(*[GOOD[name] for name in given])) for asked, given in reversed(functions())]
        self.assertEqual(first, again[::-1])

    def test_refused_things_stay(self):
        for kind, thing, asked, arguments in wrong_calls():
            before = copy.deepcopy(arguments)
            samples.refusal(asked, *arguments)
            self.assertEqual(arguments, before)


class WholeProgram(unittest.TestCase):
    def go_on(self, book, strength, tests, fault):
        """How many further tests are looked for, if this meeting is at fault."""
        tests = list(tests)
        results = [not samples.plain_meets(row, fault) for row in tests]
        found = faults.suspects(book, strength, tests, results)
        many = 0
        row = faults.next_test(book, strength, tests, results)
        while row is not None:
            many += 1
            tests.append(row)
            results.append(not samples.plain_meets(row, fault))
            left = faults.suspects(book, strength, tests, results)
            self.assertIn(fault, left)
            self.assertLess(set(left), set(found))
            found = left
            row = faults.next_test(book, strength, tests, results)
        # Those that are left give the same results by every test of the book.
        if len(found) > 1:
            self.assertIn(found, faults.blurred(book, strength, books.all_tests(book)))
        return many

    def test_going_on_by_next_tests_finds_the_fault(self):
        for book in samples.LESSER_BOOKS + samples.drawn_books(30) + samples.drawn_small_books(15):
            for strength in samples.strengths(book):
                for tests in (building.built(book, strength), []):
                    with self.subTest(book=book, strength=strength, tests=tests):
                        every = meetings.possible(book, strength)
                        looked = [self.go_on(book, strength, tests, fault) for fault in every]
                        self.assertEqual(max(looked, default=0), faults.most_looked(book, strength, tests))

    def test_papers_up_to_the_fewest_and_none_from_there_on(self):
        small = samples.LESSER_BOOKS + samples.JUST_SMALL + samples.WITH_A_GAP + [samples.WITH_A_WIDE_GAP]
        for book in small + samples.drawn_books(60) + samples.drawn_small_books(40):
            for strength in samples.strengths(book) if len(books.all_tests(book)) <= 24 else []:
                with self.subTest(book=book, strength=strength):
                    many = len(fewest.fewest(book, strength))
                    self.assertIsNone(papers.paper(book, strength, many))
                    if many > 0:
                        told = papers.paper(book, strength, many - 1)
                        self.assertIs(papers.is_paper(book, strength, many - 1, told), True)
                        self.assertIs(papers.is_paper(book, strength, many, told), False)

    def test_a_book_that_grows(self):
        book = texts.read("settings 2 2\n")
        tests = building.built(book, 2)
        for step in range(3):
            book = keeping.with_thing(book, 2)
            tests = keeping.kept(book, 2, keeping.lengthened(tests, step % 2))
            book = keeping.with_setting(book, step)
            tests = keeping.kept(book, 2, tests)
            book = keeping.with_ban(book, ((step, 2), (step + 1, 0)))
            self.assertEqual(texts.read(texts.shown(book)), book)
            tests = keeping.kept(book, 2, tests)
            self.assertTrue(covers.is_cover(book, 2, tests))
        self.assertEqual(book, ((3, 3, 3, 2, 2), tuple(((step, 2), (step + 1, 0)) for step in range(3))))

    def test_nothing_but_the_package_is_drawn_on(self):
        for module in list(INTERFACE) + [errors]:
            drawn = [thing for thing in vars(module).values() if inspect.ismodule(thing)]
            self.assertEqual(drawn, [], module.__name__)


if __name__ == "__main__":
    unittest.main()
