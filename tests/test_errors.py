import unittest

from pairtests import errors
from pairtests.errors import BadBook, BadNumber, BadResults, BadStrength, BadTests, BadText, TestError, TooBig

KINDS = [BadBook, BadStrength, BadTests, BadNumber, BadResults, TooBig, BadText]


class Errors(unittest.TestCase):
    def test_the_base_stands_under_value_error(self):
        self.assertEqual(TestError.__bases__, (ValueError,))

    def test_each_kind_stands_straight_under_the_base(self):
        for kind in KINDS:
            with self.subTest(kind=kind.__name__):
                self.assertEqual(kind.__bases__, (TestError,))

    def test_none_stands_under_another(self):
        self.assertEqual(len(set(KINDS)), 7)
        for kind in KINDS:
            for other in KINDS:
                if kind is not other:
                    self.assertFalse(issubclass(kind, other), (kind, other))

    def test_each_has_its_name(self):
        names = ["BadBook", "BadStrength", "BadTests", "BadNumber", "BadResults", "TooBig", "BadText"]
        self.assertEqual([kind.__name__ for kind in KINDS], names)
        self.assertEqual([getattr(errors, name) for name in names], KINDS)

    def test_at_is_set_when_the_error_is_made(self):
        first = BadTests(0)
        second = BadTests(7)
        self.assertEqual((first.at, second.at), (0, 7))
        self.assertFalse(hasattr(BadTests, "at"))
        with self.assertRaises(TypeError):
            BadTests()

    def test_at_is_there_when_the_error_is_taken(self):
        with self.assertRaises(TestError) as taken:
            raise BadTests(3)
        self.assertEqual(taken.exception.at, 3)

    def test_the_others_are_raised_with_words(self):
        for kind in KINDS:
            if kind is not BadTests:
                with self.subTest(kind=kind.__name__), self.assertRaises(TestError) as taken:
                    raise kind("words")
                self.assertEqual(str(taken.exception), "words")


if __name__ == "__main__":
    unittest.main()
