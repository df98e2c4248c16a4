"""Names, strengths and written numbers: points 2 and 11."""

import unittest

from spareline.errors import NoRow
from spareline.words import is_name, is_strength, number_of
from tests.helper import LETTERS, no_names, no_strengths, no_texts, refuses


class Names(unittest.TestCase):
    def test_texts_of_one_to_eight_small_letters(self):
        for thing in ["a", "z", "elk", "fox", "abcdefgh", "zzzzzzzz", "aa"] + list(LETTERS):
            self.assertIs(is_name(thing), True, thing)

    def test_lengths(self):
        for length in range(20):
            self.assertIs(is_name("q" * length), 1 <= length <= 8, length)

    def test_each_sign_by_itself_and_within(self):
        for code in range(0x250):
            sign = chr(code)
            for text in (sign, sign + "b", "b" + sign, "abc" + sign + "def"):
                self.assertIs(is_name(text), sign in LETTERS, repr(text))

    def test_whatever_else(self):
        for thing in no_names():
            self.assertIs(is_name(thing), False, repr(thing))


class Strengths(unittest.TestCase):
    def test_whole_numbers_within_the_bounds(self):
        for thing in (1, 2, 12, 10 ** 9 - 1, 10 ** 9):
            self.assertIs(is_strength(thing), True, thing)

    def test_whatever_else(self):
        for thing in no_strengths():
            self.assertIs(is_strength(thing), False, repr(thing))


class WrittenNumbers(unittest.TestCase):
    def test_numbers_as_they_are_written(self):
        for number in list(range(1100)) + [10 ** power + add for power in range(10) for add in (-1, 0, 1)]:
            self.assertEqual(number_of(str(number)), number)
            self.assertIs(type(number_of(str(number))), int)

    def test_one_and_ten_figures(self):
        self.assertEqual(number_of("0"), 0)
        self.assertEqual(number_of("9"), 9)
        self.assertEqual(number_of("1000000000"), 10 ** 9)
        self.assertEqual(number_of("1000000001"), 10 ** 9 + 1)
        self.assertEqual(number_of("9999999999"), 9999999999)

    def test_eleven_figures_are_too_many(self):
        for text in ("10000000000", "99999999999", "0" * 11, "1" * 2000):
            refuses(self, NoRow, (text,), number_of, text)

    def test_a_nought_ahead(self):
        for text in ("00", "01", "007", "0000000000", "0123456789"):
            refuses(self, NoRow, (text,), number_of, text)

    def test_other_texts(self):
        for text in ("", " ", " 1", "1 ", "+1", "-1", "-0", "1_0", "1.0", "1e3", "0x1", "a", "1a", "1\n", "\n1", "\n",
                     "\u0661", "1\u0662", "\u00b2", "\uff11", "one", "1,000"):
            refuses(self, NoRow, (text,), number_of, text)

    def test_each_sign_among_figures(self):
        for code in range(0x250):
            sign = chr(code)
            if sign not in "0123456789":
                for text in (sign, sign + "1", "1" + sign, "1" + sign + "1"):
                    refuses(self, NoRow, (text,), number_of, text)

    def test_what_is_no_text(self):
        for thing in no_texts():
            refuses(self, NoRow, (thing,), number_of, thing)


if __name__ == "__main__":
    unittest.main()
