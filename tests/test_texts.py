import copy
import unittest

import samples
from pairtests.books import checked
from pairtests.errors import BadBook, BadText, TestError
from pairtests.texts import read, shown

BOOK = ((2, 3, 2), (((0, 1), (1, 2)), ((2, 0),), ((0, 0), (1, 0), (2, 1))))
TEXT = "settings 2 3 2\nban 0:1 1:2\nban 2:0\nban 0:0 1:0 2:1\n"

TWELVE = ((4, 4, 4, 3, 2, 1), tuple(((0, place // 4), (1, place - place // 4 * 4), (5, 0)) for place in range(12)))

# Signs that stand in texts and signs near them: figures of other scripts, other blanks and line ends, letters alike.
SIGNS = "0123459:; \n\r\t\v\f+-_.,xstgbanSB\u00a0\u0661\uff11\u00b2\u2028\u2029\x85\x1c\x00\ufeff\u0430"

BOOKS = samples.GOOD_BOOKS + [BOOK, TWELVE, samples.NO_TEST]


def near_texts(text):
    """The text with a sign left out, doubled, changed or put in, at each place."""
    found = []
    for place in range(len(text) + 1):
        found += [text[:place] + text[place + 1:], text[:place + 1] + text[place:]]
        for sign in SIGNS:
            found += [text[:place] + sign + text[place + 1:], text[:place] + sign + text[place:]]
    for place in range(len(text) - 1):
        found.append(text[:place] + text[place + 1] + text[place] + text[place + 2:])
    return found


def plain_book(text):
    """The book that the text is the very one of, or None: tried are all numbers of one figure that stand in it."""
    lines = [line.split(" ") for line in text.split("\n")]
    levels = tuple(int(word) for word in lines[0][1:] if len(word) == 1 and "0" <= word <= "9")
    bans = []
    for words in lines[1:-1]:
        pairs = [word for word in words[1:] if len(word) == 3 and "0" <= word[0] <= "9" and "0" <= word[2] <= "9"]
        bans.append(tuple((int(word[0]), int(word[2])) for word in pairs))
    book = (levels, tuple(bans))
    try:
        return book if plain_text(checked(book)) == text else None
    except TestError:
        return None


def plain_text(book):
    text = "settings"
    for level in book[0]:
        text += " %d" % level
    text += "\n"
    for ban in book[1]:
        text += "ban"
        for pair in ban:
            text += " %d:%d" % pair
        text += "\n"
    return text


class Shown(samples.Asking):
    def test_some(self):
        self.assertEqual(shown(BOOK), TEXT)
        self.assertEqual(shown(((1,), ())), "settings 1\n")
        self.assertEqual(shown(((4, 1, 3), ())), "settings 4 1 3\n")
        self.assertEqual(shown(((2,), (((0, 1),), ((0, 1),)))), "settings 2\nban 0:1\nban 0:1\n")
        self.assertEqual(shown(((1,) * 6, (((3, 0), (4, 0), (5, 0)),))), "settings 1 1 1 1 1 1\nban 3:0 4:0 5:0\n")

    def test_twelve_bans(self):
        self.assertEqual(shown(TWELVE).count("\n"), 13)
        self.assertTrue(shown(TWELVE).endswith("\nban 0:2 1:2 5:0\nban 0:2 1:3 5:0\n"))

    def test_every_book(self):
        for book in BOOKS + samples.drawn_books(100):
            before = copy.deepcopy(book)
            told = shown(book)
            self.assertIs(type(told), str)
            self.assertEqual(told, plain_text(book))
            self.assertEqual(book, before)

    def test_whatever_is_no_book(self):
        for book in samples.wrong_books() + [TEXT, [BOOK]]:
            self.refuse(BadBook, shown, book)


class Read(samples.Asking):
    def test_some(self):
        self.assertEqual(read(TEXT), BOOK)
        self.assertEqual(read("settings 1\n"), ((1,), ()))
        self.assertEqual(read("settings 4 4 4 3 2 1\nban 5:0\n"), ((4, 4, 4, 3, 2, 1), (((5, 0),),)))

    def test_what_is_shown_is_read_to_the_same_book(self):
        for book in BOOKS + samples.drawn_books(200):
            told = read(shown(book))
            # Written out, True and 1 are not the same, nor are a list and a tuple.
            self.assertEqual(repr(told), repr(book))

    def test_the_bounds(self):
        read("settings 1 1 1 1 1 1\n")
        read("settings 4 4 4 3 2\n")
        read("settings 2 2\n" + "ban 0:1 1:1\n" * 12)
        for text in (
            "settings\n", "settings 1 1 1 1 1 1 1\n", "settings 0\n", "settings 5\n", "settings 2 0\n", "settings 10\n",
            "settings 4 4 3 3 3\n", "settings 3 3 3 4 4 1\n", "settings 2 2\n" + "ban 0:1 1:1\n" * 13,
            "settings 2 2\nban\n", "settings 2 2\nban 0:2\n", "settings 2 2\nban 2:0\n", "settings 2 2\nban 1:0 0:0\n",
            "settings 2 2\nban 0:0 0:1\n", "settings 2 2\nban 0:0 0:0\n", "settings 2 2\nban 0:10\n",
            "settings 2 2 2 2\nban 0:0 1:0 2:0 3:0\n",
        ):
            self.refuse(BadText, read, text)

    def test_lines(self):
        for text in (
            "", "\n", " ", "\n\n", "settings 2", "settings 2\n\n", "\nsettings 2\n", " settings 2\n", "settings 2 \n",
            "settings  2\n", "settings 2\n ", "settings 2\n \n", "settings 2\nban 0:0", "settings 2\n\nban 0:0\n",
            "settings 2\nban 0:0\n\n", "settings 2\r\n", "settings 2\r", "settings 2\nban 0:0\r\n", "settings 2\x0b",
            "settings 2\x0c\n", "settings 2\u2028", "settings 2\x85", "settings 2 ban 0:0\n", "settings\n2\n",
            "settings\t2\n", "settings 2\nban 0:0  \n", "settings 2 2\nban 0:0  1:0\n", "settings 2\n ban 0:0\n",
            "settings 2\nban  0:0\n", "settings 2\nban\t0:0\n", "settings 2\n\tban 0:0\n", "settings 2\nban 0:0\n\x00",
        ):
            self.refuse(BadText, read, text)

    def test_words(self):
        for text in (
            "Settings 2\n", "SETTINGS 2\n", "setting 2\n", "settings: 2\n", "settings2\n", "2\n", "ban 0:0\n",
            "2 settings\n",
            "settings 2\nBan 0:0\n", "settings 2\nbans 0:0\n", "settings 2\n0:0\n", "settings 2\nsettings 2\n",
            "ban 0:0\nsettings 2\n", "settings 2\nban 0:0\nsettings 2\n", "settings 2\nban 0:0 ban 0:1\n",
            "settings settings 2\n", "settings 2\nban ban 0:0\n", "settings 2,2\n", "settings 2, 2\n",
            "settings (2,)\n", "settings 2 # two\n", "settings 2\n# nothing\n", "settings ban\n", "settings 2:0\n",
        ):
            self.refuse(BadText, read, text)

    def test_numbers(self):
        for number in (
            "02", "002", "+2", "-2", "2.0", "2.", "2e0", "0x2", "0b10", "2_", "_2", "1_0", "two", "", "\u0662",
            "\uff12", "\u00b2", "\u2461", "2\u0301", "True", "None", "'2'", "9" * 5000, "0" * 5000 + "2", "-1", "-0",
            "+0", "00",
        ):
            self.refuse(BadText, read, f"settings {number}\n")
            self.refuse(BadText, read, f"settings 2 {number} 2\n")
            self.refuse(BadText, read, f"settings 3 3 3\nban {number}:2\n")
            self.refuse(BadText, read, f"settings 3 3 3\nban 2:{number}\n")
            self.refuse(BadText, read, f"settings 3 3 3\nban 0:0 {number}:2\n")

    def test_settings_of_bans(self):
        for pair in ("0", "0:", ":0", ":", "0:0:0", "0::0", "0: 0", "0 :0", "0 0", "0;0", "0.0", "0-0", "(0,0)"):
            self.refuse(BadText, read, f"settings 2 2\nban {pair}\n")
            self.refuse(BadText, read, f"settings 2 2\nban {pair} 1:0\n")
            self.refuse(BadText, read, f"settings 2 2\nban 0:0 {pair}\n")

    def test_a_sign_left_out_doubled_changed_or_put_in(self):
        books = [BOOK, ((1,), ()), ((4, 3), ()), ((2, 2, 1, 1, 1, 1), (((0, 1), (4, 0), (5, 0)), ((1, 1),))), TWELVE]
        others = 0
        for book in books:
            for text in near_texts(shown(book)):
                wanted = plain_book(text)
                if wanted is None:
                    self.refuse(BadText, read, text)
                else:
                    self.assertEqual(read(text), wanted)
                    others += wanted != book
        self.assertGreater(others, 50)

    def test_lines_left_out_doubled_and_in_another_order(self):
        lines = TEXT.splitlines(keepends=True)
        for place in range(1, 4):
            bans = tuple(samples.without(list(BOOK[1]), place - 1))
            self.assertEqual(read("".join(samples.without(lines, place))), (BOOK[0], bans))
        self.assertEqual(read("".join([lines[0], lines[3], lines[1]])), (BOOK[0], (BOOK[1][2], BOOK[1][0])))
        for wrong in (lines[1:], lines[1:] + lines[:1], lines[:1] + lines, [lines[1], lines[0], lines[2]]):
            self.refuse(BadText, read, "".join(wrong))

    def test_whatever_is_no_text(self):
        written = TEXT.encode()
        for thing in samples.NO_LISTS + [[], [TEXT], written, bytearray(written), BOOK, (TEXT,), {TEXT: TEXT}]:
            self.refuse(BadText, read, thing)


if __name__ == "__main__":
    unittest.main()
