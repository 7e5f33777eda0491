"""[4] what a name is, [8] how a number is written, [2] what a whole number is."""

import unittest

from digmatrix.numbers import is_name, read_number

FIGURES = "0123456789"
NAME_SIGNS = "abcdefghijklmnopqrstuvwxyz" + FIGURES + "-"
# [2]: from the blank to the tilde, but the percent sign, and the line feed.
SIGNS = [chr(code) for code in range(32, 127) if chr(code) != "%"] + ["\n"]


class Names(unittest.TestCase):
    def test_one_sign(self):
        for sign in SIGNS:
            with self.subTest(sign=sign):
                self.assertIs(is_name(sign), sign in NAME_SIGNS)

    def test_each_sign_at_each_place(self):
        for sign in SIGNS:
            for text in (sign + "bc", "a" + sign + "c", "ab" + sign):
                with self.subTest(text=text):
                    self.assertIs(is_name(text), sign in NAME_SIGNS)

    def test_every_length(self):
        for length in range(0, 40):
            with self.subTest(length=length):
                self.assertIs(is_name("a" * length), 1 <= length <= 12)

    def test_lengths_of_other_signs(self):
        for sign in "z09-":
            self.assertIs(is_name(sign * 12), True)
            self.assertIs(is_name(sign * 13), False)

    def test_no_sign_is_no_name(self):
        self.assertIs(is_name(""), False)

    def test_signs_may_stand_in_any_order(self):
        for text in ("-", "--", "-a", "a-", "0", "00", "007", "-1", "well-2", "abc-012-xyz9", "dig", "over"):
            with self.subTest(text=text):
                self.assertIs(is_name(text), True)

    def test_wrong_ones(self):
        for text in ("A", "aB", "a b", " a", "a ", "a\n", "\na", "a_b", "a.b", ";a", "a;", "1:2", "Well", " "):
            with self.subTest(text=text):
                self.assertIs(is_name(text), False)


class Numbers(unittest.TestCase):
    def check(self, text, number):
        with self.subTest(text=text):
            told = read_number(text)
            self.assertEqual(told, number)
            self.assertIs(type(told), int)

    def test_one_figure(self):
        for value, figure in enumerate(FIGURES):
            self.check(figure, value)

    def test_one_figure_below_nought(self):
        for value, figure in enumerate(FIGURES[1:], start=1):
            self.check("-" + figure, -value)

    def test_what_python_writes_is_read(self):
        for number in list(range(-1100, 1101)) + [10 ** 20, -10 ** 20, 9999, -9999]:
            self.check(str(number), number)

    def test_noughts_behind(self):
        self.check("10", 10)
        self.check("100", 100)
        self.check("-500", -500)
        self.check("1001", 1001)

    def test_up_to_sixty_figures(self):
        for figures in (59, 60):
            self.check("9" * figures, 10 ** figures - 1)
            self.check("-" + "9" * figures, 1 - 10 ** figures)
            self.check("1" + "0" * (figures - 1), 10 ** (figures - 1))

    def test_more_than_sixty_figures(self):
        for text in ("9" * 61, "-" + "9" * 61, "1" + "0" * 60, "1" * 62, "-1" + "0" * 60, "7" * 200):
            with self.subTest(text=text):
                self.assertIsNone(read_number(text))

    def test_a_nought_ahead(self):
        for text in ("00", "01", "007", "-01", "-00", "-007", "0" * 60, "000", "0" + "9" * 59):
            with self.subTest(text=text):
                self.assertIsNone(read_number(text))

    def test_minus_nought(self):
        self.assertIsNone(read_number("-0"))

    def test_no_figures(self):
        for text in ("", "-", "--", " ", "\n"):
            with self.subTest(text=text):
                self.assertIsNone(read_number(text))

    def test_signs_that_are_no_figures(self):
        for sign in SIGNS:
            if sign in FIGURES:
                continue
            texts = [sign, "1" + sign, "1" + sign + "2", "-" + sign, "-1" + sign, sign + "-1"]
            # A minus is the one sign that may stand ahead.
            if sign != "-":
                texts.append(sign + "1")
            for text in texts:
                with self.subTest(text=text):
                    self.assertIsNone(read_number(text))

    def test_other_ways_to_write_numbers(self):
        for text in ("+1", "--1", "-+1", "1_000", "1.0", "1e3", "0x1f", "0b1", "1,0", " 1", "1 ", "- 1", "1\n",
                     "\n1", "1 2", "1-", "1-1", "one", "True", "None"):
            with self.subTest(text=text):
                self.assertIsNone(read_number(text))


if __name__ == "__main__":
    unittest.main()
