"""[10] what is refused, by which class, with which row, and which of several wrong things comes first."""

import unittest

from digmatrix.errors import BadName, BadNumber, BadRow, BadSpan, BadTwice, BadUnit, TextError
from digmatrix.tellings import read_telling

KINDS = ("over", "cuts", "fills", "after", "same")
# Right lines; what a test adds behind them stands in the line BEHIND.
HEAD = ("dig 0 99", "unit a", "unit b", "over a b", "after a b 5", "find f a 1 2")
BEHIND = len(HEAD) + 1
TOO_LONG = "abcdefghijklm"
NO_NAMES = ("A", "a_b", TOO_LONG, "a.", "Unit", ";a", "a;", "a,b")
NO_NUMBERS = ("x", "-", "-0", "00", "01", "-01", "+1", "1.0", "1_0", "1e2", "1x", "0x1", "--1", "9" * 61, "-" + "9" * 61)


def tie_line(kind, first, second, gap="1"):
    return f"{kind} {first} {second} {gap}" if kind == "after" else f"{kind} {first} {second}"


class Refusals(unittest.TestCase):
    def refused(self, text, error, row):
        with self.subTest(text=text):
            with self.assertRaises(TextError) as caught:
                read_telling(text)
            self.assertIs(type(caught.exception), error)
            self.assertEqual(caught.exception.row, row)
            self.assertIs(type(caught.exception.row), int)

    def refused_behind(self, line, error):
        self.refused("\n".join(HEAD + (line,)), error, BEHIND)

    def taken_behind(self, line):
        with self.subTest(line=line):
            read_telling("\n".join(HEAD + (line,)))


class NothingToRead(Refusals):
    def test_texts_all_of_whose_lines_are_passed_over(self):
        for text in ("", "\n", " ", "   \n  ", ";", "; dig 0 9", ";dig 0 9\n\n ;unit a", "\n\n\n", "  ;"):
            self.refused(text, BadRow, 0)

    def test_what_is_no_text(self):
        for thing in (None, 0, 7, True, False, [], ["dig 0 9"], (), ("dig 0 9",), {}, {"dig 0 9": 1}, b"dig 0 9",
                      ((0, 9), [], [], [])):
            self.refused(thing, BadRow, 0)

    def test_no_list_that_is_no_text_is_changed(self):
        thing = ["dig 0 9", "unit a"]
        self.refused(thing, BadRow, 0)
        self.assertEqual(thing, ["dig 0 9", "unit a"])


class BadRows(Refusals):
    def test_first_words_that_are_none(self):
        for word in ("dug", "Dig", "DIG", "digs", "di", "Unit", "units", "under", "above", "cut", "fill", "drop", "untie",
                     "Over", "a", "0", "-", ",", "unit;", "#", "order", "name"):
            for behind in ("", " a", " a b", " a b 1", " f a 1 2", " 0 1"):
                self.refused_behind(word + behind, BadRow)
                self.refused(word + behind, BadRow, 1)

    def test_no_frame_first(self):
        for line in ("unit a", "over a b", "cuts a b", "fills a b", "after a b 1", "same a b", "find f a 0 1", "x"):
            self.refused(line, BadRow, 1)
            self.refused(line + "\ndig 0 9", BadRow, 1)
            self.refused("; remark\n\n" + line + "\ndig 0 9", BadRow, 3)

    def test_a_frame_in_a_later_line(self):
        self.refused_behind("dig 0 99", BadRow)
        self.refused_behind("dig 5 6", BadRow)
        self.refused("dig 0 9\ndig 0 9", BadRow, 2)
        self.refused("dig 0 9\n\n; remark\n  dig 0 9", BadRow, 4)

    def test_too_few_words(self):
        for line in ("unit", "over", "over a", "cuts", "cuts b", "fills", "fills b", "same", "same b", "after", "after a",
                     "after a b", "find", "find g", "find g a", "find g a 1", "find  g  a  1  "):
            self.refused_behind(line, BadRow)

    def test_too_many_words(self):
        for line in ("unit c d", "unit c 1", "cuts a b a", "over b a 1", "fills a b ;", "same a b ; remark",
                     "after a b 1 2", "after a b 1 b", "find g a 1 2 3", "find g a 1 2 a", "unit c ;remark"):
            self.refused_behind(line, BadRow)

    def test_the_words_of_the_frame(self):
        for line in ("dig", "dig 0", "dig 0 9 9", "dig 0 9 ;", "dig 0 9 a"):
            self.refused(line, BadRow, 1)
            self.refused("\n" + line, BadRow, 2)

    def test_blanks_alone_part_words(self):
        for line in ("unita", "unit,c", "unit:c", "find-g-a-1-2"):
            self.refused_behind(line, BadRow)


class BadNames(Refusals):
    def test_units(self):
        for name in NO_NAMES:
            self.refused_behind("unit " + name, BadName)
        self.taken_behind("unit " + TOO_LONG[:12])

    def test_both_names_of_each_tie(self):
        for kind in KINDS:
            for name in NO_NAMES:
                self.refused_behind(tie_line(kind, name, "b"), BadName)
                self.refused_behind(tie_line(kind, "a", name), BadName)
                self.refused_behind(tie_line(kind, name, name), BadName)

    def test_both_names_of_a_find(self):
        for name in NO_NAMES:
            self.refused_behind(f"find {name} a 1 2", BadName)
            self.refused_behind(f"find g {name} 1 2", BadName)


class BadNumbers(Refusals):
    def test_years_of_the_frame(self):
        for number in NO_NUMBERS:
            self.refused(f"dig {number} 9", BadNumber, 1)
            self.refused(f"dig 0 {number}", BadNumber, 1)
            self.refused(f"dig {number} {number}", BadNumber, 1)
            self.refused(f";\n\ndig {number} 9\nunit a", BadNumber, 3)

    def test_years_of_a_find(self):
        for number in NO_NUMBERS:
            self.refused_behind(f"find g a {number} 9", BadNumber)
            self.refused_behind(f"find g a 0 {number}", BadNumber)

    def test_gaps(self):
        for number in NO_NUMBERS + ("-1", "-10", "-" + "9" * 60):
            self.refused_behind("after b a " + number, BadNumber)
        self.taken_behind("after b a 0")
        self.taken_behind("after b a 1")
        self.taken_behind("after b a " + "9" * 60)

    def test_years_may_be_below_nought(self):
        read_telling("dig -9 -1")
        self.taken_behind("find g a -9 -1")
        self.taken_behind("find g a -" + "9" * 60 + " -1")


class BadSpans(Refusals):
    def test_the_frame(self):
        for line in ("dig 1 0", "dig 0 -1", "dig -1 -2", "dig 10 9", "dig 100 99", "dig 1 -1"):
            self.refused(line, BadSpan, 1)
            self.refused("  \n" + line + "\nunit a", BadSpan, 2)
        for line in ("dig 0 0", "dig -1 -1", "dig 9 10", "dig -2 -1", "dig -1 1"):
            read_telling(line)

    def test_a_find(self):
        for years in ("1 0", "0 -1", "-1 -2", "10 9", "1 -1", "9" * 60 + " 9"):
            self.refused_behind("find g a " + years, BadSpan)
        for years in ("0 0", "-1 -1", "9 10", "-2 -1", "9 " + "9" * 60):
            self.taken_behind("find g a " + years)


class ToldTwice(Refusals):
    def test_a_unit(self):
        self.refused_behind("unit a", BadTwice)
        self.refused_behind("  unit   b ", BadTwice)
        self.taken_behind("unit f")
        self.taken_behind("unit c")

    def test_each_kind_of_tie(self):
        for kind in KINDS:
            for first, second in (("a", "b"), ("b", "a"), ("a", "a")):
                line = tie_line(kind, first, second, "7")
                self.refused("\n".join(("dig 0 9", "unit a", "unit b", line, line)), BadTwice, 5)
                rows = ("dig 0 9", "unit a", "unit b", line, "unit c", "", "find c c 1 2", " " + line)
                self.refused("\n".join(rows), BadTwice, 8)

    def test_ties_of_which_one_thing_is_another(self):
        for line in ("over b a", "over a a", "cuts a b", "same a b", "after a b 6", "after b a 5", "after a b 50"):
            self.taken_behind(line)

    def test_a_find_of_the_same_name(self):
        for line in ("find f a 1 2", "find f b 1 2", "find f a 3 4", "find f b 30 40"):
            self.refused_behind(line, BadTwice)
        for line in ("find g a 1 2", "find a a 1 2"):
            self.taken_behind(line)


class UnitsNotTold(Refusals):
    def test_both_names_of_each_tie(self):
        for kind in KINDS:
            self.refused_behind(tie_line(kind, "c", "b"), BadUnit)
            self.refused_behind(tie_line(kind, "a", "c"), BadUnit)
            self.refused_behind(tie_line(kind, "c", "c"), BadUnit)
            self.refused_behind(tie_line(kind, "c", "d"), BadUnit)

    def test_a_find(self):
        self.refused_behind("find g c 1 2", BadUnit)

    def test_told_further_down_is_not_told_above(self):
        self.refused("dig 0 9\nunit a\nover a b\nunit b", BadUnit, 3)
        self.refused("dig 0 9\nfind f a 1 2\nunit a", BadUnit, 2)
        self.refused("dig 0 9\nunit b\nsame a b\nunit a", BadUnit, 3)

    def test_a_find_is_no_unit(self):
        self.refused_behind("over f a", BadUnit)
        self.refused_behind("over a f", BadUnit)
        self.refused_behind("find g f 1 2", BadUnit)

    def test_a_passed_over_line_tells_no_unit(self):
        self.refused("dig 0 9\nunit a\n;unit b\nover a b", BadUnit, 4)


class TwoWrongThingsInOneLine(Refusals):
    def test_a_bad_row_goes_ahead_of_all(self):
        for line in ("unit A b", "over A", "find A a 1", "after a b x 1", "find g a x", "find g a x 1 1", "dig x 1",
                     "dig 2 1", "dig 0", "find g a 2 1 1", "unit a a", "over a b b", "find f a 1 2 3", "over c",
                     "over c d e", "find g c 1", "DIG A -0"):
            self.refused_behind(line, BadRow)
        for line in ("dig x", "dig 2 1 0", "dig x y z", "unit A", "over A B", "after a b -1", "find A a 1 2",
                     "find f a 2 1", "find f a x 1"):
            self.refused(line, BadRow, 1)

    def test_then_a_bad_name(self):
        for line in ("after A b x", "after a B -1", "find A a x 1", "find g A 1 -0", "find A a 2 1", "find g A 2 1",
                     "find f A 1 2", "find f A x y", "over c B", "over B c", "same C d", "find A c 1 2", "find f C 2 1"):
            self.refused_behind(line, BadName)

    def test_then_a_bad_number(self):
        for line in ("find f a x 1", "find f a 1 x", "find f c 1 01", "find g c x 1", "after c d -1", "after c b x",
                     "after a d 00", "find g c 9 -0", "find g a 9 x"):
            self.refused_behind(line, BadNumber)
        self.refused("dig 9 -0", BadNumber, 1)

    def test_then_a_bad_span(self):
        for line in ("find f a 2 1", "find f c 2 1", "find g c 2 1"):
            self.refused_behind(line, BadSpan)

    def test_told_twice_goes_ahead_of_a_unit_that_was_not_told(self):
        self.refused_behind("find f c 1 2", BadTwice)


class TwoWrongLines(Refusals):
    wrong = (
        ("nothing", BadRow),
        ("unit A", BadName),
        ("after a b -1", BadNumber),
        ("find g a 2 1", BadSpan),
        ("unit b", BadTwice),
        ("over a c", BadUnit),
    )

    def test_the_first_line_is_told_whatever_is_wrong_in_it(self):
        for first, error in self.wrong:
            for second, other in self.wrong:
                self.refused("\n".join(HEAD + (first, second)), error, BEHIND)
                self.refused("\n".join(HEAD + (first, "unit c", "", second)), error, BEHIND)
                self.refused("\n".join(("",) + HEAD + ("; remark", first, second)), error, BEHIND + 2)

    def test_a_wrong_frame_is_told_first(self):
        for line, error in (("dig x 1", BadNumber), ("dig 2 1", BadSpan), ("dig 1", BadRow)):
            for second, other in self.wrong:
                self.refused(line + "\n" + second, error, 1)


class Rows(Refusals):
    def test_all_lines_are_counted(self):
        for above in range(0, 30):
            text = "\n" * above + "dig 0 9\n;\n\n   \n; remark\nunit A"
            self.refused(text, BadName, above + 6)

    def test_the_last_of_many_lines(self):
        rows = ["dig 0 9"] + [f"unit u{number}" for number in range(60)]
        self.refused("\n".join(rows + ["unit u0"]), BadTwice, 62)
        self.refused("\n".join(rows + ["unit u59"]), BadTwice, 62)

    def test_refused_again_alike(self):
        text = "\n".join(HEAD + ("unit a",))
        for time in range(3):
            self.refused(text, BadTwice, BEHIND)

    def test_a_refusal_leaves_nothing_behind(self):
        self.refused("dig 0 9\nunit a\nunit b\nover a b\nfind f a 1 2\nunit A", BadName, 6)
        self.refused("dig 0 9\nover a b", BadUnit, 2)
        text = "dig 0 9\nunit a\nunit b\nover a b\nfind f a 1 2"
        self.assertEqual(read_telling(text), ((0, 9), ["a", "b"], [("over", "a", "b")], [("f", "a", 1, 2)]))


if __name__ == "__main__":
    unittest.main()
