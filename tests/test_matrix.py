"""[24] the matrix drawn as lines, [25] such a text read, and NoMatrix; [2] for both."""

import random
import unittest

from digmatrix.drawn import drawn
from digmatrix.errors import NoMatrix, Round
from digmatrix.levels import levels
from digmatrix.matrix import read_matrix, show_matrix
from tests import helper
from tests.helper import telling


def lines(*rows):
    return "\n".join(rows)


class Shown(unittest.TestCase):
    def test_no_units(self):
        self.assertEqual(show_matrix(telling("")), "")

    def test_units_without_ties(self):
        self.assertEqual(show_matrix(telling("a")), "0: a")
        self.assertEqual(show_matrix(telling("c b a 9 10")), "0: 10 9 a b c")

    def test_levels_from_the_greatest_then_pairs(self):
        whole = telling("a b c d", "over a b,over b c,over a c,over d c,same a a")
        self.assertEqual(show_matrix(whole), lines("2: a", "1: b d", "0: c", "a > b", "b > c", "d > c"))

    def test_ones(self):
        whole = telling("a b c d", "same c a,over c b,over d a")
        self.assertEqual(show_matrix(whole), lines("2: d", "1: a", "0: b", "a > b", "d > a"))

    def test_more_than_ten_levels(self):
        names = [f"u{number:02}" for number in range(12)]
        ties = [("over", upper, lower) for lower, upper in zip(names, names[1:])]
        rows = [f"{number}: u{number:02}" for number in range(11, -1, -1)]
        rows += [f"u{number:02} > u{number - 1:02}" for number in range(1, 12)]
        self.assertEqual(show_matrix(((0, 9), names, ties, [])), "\n".join(rows))

    def test_refused_by_round(self):
        for rows, size in (("over a a", 1), ("over a b,over b c,over c a", 3), ("over a b,same b c,cuts c a", 2)):
            whole = telling("a b c", rows)
            with self.assertRaises(Round) as caught:
                show_matrix(whole)
            self.assertTrue(helper.is_round(whole, caught.exception.ties))
            self.assertEqual(len(caught.exception.ties), size)

    def test_shown_and_read_again(self):
        for seed in range(200):
            with self.subTest(seed=seed):
                whole = helper.some_telling(random.Random(seed), most_units=12, most_ties=16, sames=seed % 2)
                if helper.round_size(whole) is not None:
                    continue
                before = helper.frozen(whole)
                text = show_matrix(whole)
                self.assertEqual(helper.frozen(whole), before)
                self.assertEqual(read_matrix(text), (levels(whole), drawn(whole)))
        whole = helper.great_telling(random.Random(1))
        self.assertEqual(read_matrix(show_matrix(whole)), (levels(whole), drawn(whole)))


class Read(unittest.TestCase):
    def test_the_text_without_signs(self):
        self.assertEqual(read_matrix(""), ([], []))

    def test_levels_alone(self):
        self.assertEqual(read_matrix("0: a"), ([["a"]], []))
        self.assertEqual(read_matrix("0: - 10 9 a abcdefghijkl"), ([["-", "10", "9", "a", "abcdefghijkl"]], []))
        self.assertEqual(read_matrix("1: b\n0: a c"), ([["a", "c"], ["b"]], []))

    def test_levels_and_pairs(self):
        text = lines("2: a", "1: b d", "0: c", "a > b", "b > c", "d > c")
        self.assertEqual(read_matrix(text), ([["c"], ["b", "d"], ["a"]], [("a", "b"), ("b", "c"), ("d", "c")]))

    def test_pairs_that_no_telling_would_have(self):
        # [25] asks of a pair that its names are there and that it is greater than the one ahead, no more.
        self.assertEqual(read_matrix("1: b\n0: a\na > b"), ([["a"], ["b"]], [("a", "b")]))
        self.assertEqual(read_matrix("1: b\n0: a"), ([["a"], ["b"]], []))
        self.assertEqual(read_matrix("0: a b\na > a\na > b"), ([["a", "b"]], [("a", "a"), ("a", "b")]))

    def test_many_levels(self):
        rows = [f"{number}: u{number}" for number in range(300, -1, -1)]
        self.assertEqual(read_matrix("\n".join(rows)), ([[f"u{number}"] for number in range(301)], []))

    def test_kinds_and_owners(self):
        text = "1: b\n0: a c\nb > a"
        told = read_matrix(text)
        self.assertEqual([type(part) for part in (told, told[0], told[0][0], told[1], told[1][0])],
                         [tuple, list, list, list, tuple])
        told[0][0].append("x")
        told[0].clear()
        told[1].clear()
        self.assertEqual(read_matrix(text), ([["a", "c"], ["b"]], [("b", "a")]))
        empty = read_matrix("")
        empty[0].append("x")
        self.assertEqual(empty, (["x"], []))
        self.assertEqual(read_matrix(""), ([], []))


class Refused(unittest.TestCase):
    head = ("2: c", "1: b", "0: a d")

    def refused(self, text, row):
        with self.subTest(text=text):
            with self.assertRaises(NoMatrix) as caught:
                read_matrix(text)
            self.assertIs(type(caught.exception), NoMatrix)
            self.assertEqual(caught.exception.row, row)
            self.assertIs(type(caught.exception.row), int)

    def everywhere(self, line):
        """The line is wrong as the first one, behind levels and behind pairs."""
        self.refused(line, 1)
        self.refused(line + "\n0: q", 1)
        self.refused(lines("1: c", line), 2)
        self.refused(lines(*self.head, line), 4)
        self.refused(lines(*self.head, "b > a", line), 5)
        self.refused(lines(*self.head, "b > a", line, "c > b"), 5)

    def test_what_is_no_text(self):
        for thing in (None, 0, 7, True, [], ["0: a"], (), {}, b"0: a", ([["a"]], [])):
            self.refused(thing, 0)

    def test_neither_a_level_nor_a_pair(self):
        for line in (" ", "x", "a", "0", "a b", "a b c", ">", " > ", "a >", "> a", "a > ", " > a", "a>b", "a >b", "a> b",
                     "a < b", "b >> a", "b > a c", "b > a ", " b > a", "b  > a", "b >  a", "b > a > d", "b - a",
                     "; remark", ":", ": a", "a: b", "0 : x", "0:x", "0 x", "0; x", "0:: x", "0: x:"):
            self.everywhere(line)

    def test_a_line_without_signs(self):
        self.refused("\n", 1)
        self.refused("\n0: a", 1)
        self.refused("0: a\n", 2)
        self.refused("0: a\n\n", 2)
        self.refused("1: b\n\n0: a", 2)
        self.refused("1: b\n0: a\nb > a\n", 4)
        self.refused("1: b\n0: a\n\nb > a", 3)

    def test_a_number_that_is_none(self):
        for number in ("-0", "00", "01", "+0", "0.", "x", "", "1e1", "0" * 60, "1" * 61, "-1", "-5", "0 0"):
            self.refused(f"{number}: x", 1)
            self.refused(f"{number}: x\n0: y", 1)
        self.refused("2: a\n01: b\n0: c", 2)
        self.refused("1: a\n00: b", 2)
        self.refused("1: a\n-0: b", 2)
        self.refused("0: a\n-1: b", 2)

    def test_a_number_of_sixty_figures(self):
        nines = "9" * 60
        self.refused(f"{nines}: a", 2)
        self.refused(f"{nines}: a\n{nines[:-1]}8: b", 3)
        self.refused(f"{nines}: a\n{nines}: b", 2)
        self.refused("1" + "0" * 60 + ": a", 1)

    def test_a_level_behind_a_pair(self):
        self.refused(lines("1: b", "0: a", "b > a", "0: c"), 4)
        self.refused(lines("2: b", "1: a", "b > a", "0: c"), 4)

    def test_a_level_not_one_less(self):
        self.refused("1: a\n1: b\n0: c", 2)
        self.refused("0: a\n0: b", 2)
        self.refused("0: a\n1: b", 2)
        self.refused("3: a\n1: b\n0: c", 2)
        self.refused("3: a\n2: b\n0: c", 3)
        self.refused("2: a\n3: b", 2)
        self.refused("1: a\n2: b\n0: c", 2)

    def test_a_level_without_names(self):
        self.refused("0:", 1)
        self.refused("0: ", 1)
        self.refused("1: a\n0:", 2)
        self.refused("1:\n0: a", 1)
        self.refused("1: a\n0: ", 2)

    def test_a_name_that_is_none(self):
        for name in ("A", "a_b", "a.b", "abcdefghijklm", "a:", ">", ","):
            self.refused(f"0: {name}", 1)
            self.refused(f"0: a {name}", 1)
            self.refused(f"1: b\n0: a {name}", 2)

    def test_blanks(self):
        for line in ("0:  a", "0: a ", "0: a  b", " 0: a", "0 : a", "0: a b "):
            self.refused(line, 1)
            self.refused("1: x\n" + line, 2)

    def test_a_name_that_was_there_already(self):
        self.refused("0: a a", 1)
        self.refused("1: a\n0: a", 2)
        self.refused("2: a\n1: b\n0: a", 3)
        self.refused("1: a b\n0: b c", 2)

    def test_names_out_of_order(self):
        self.refused("0: b a", 1)
        self.refused("0: a c b", 1)
        self.refused("0: 9 10", 1)
        self.refused("1: a\n0: c b", 2)
        self.assertEqual(read_matrix("1: b\n0: a"), ([["a"], ["b"]], []))

    def test_a_pair_of_a_name_that_no_level_has(self):
        self.refused("a > b", 1)
        self.refused("0: a\na > b", 2)
        self.refused("0: a\nb > a", 2)
        self.refused("1: b\n0: a\nb > a\nc > a", 4)
        self.refused("1: b\na > b\n0: a", 2)

    def test_a_pair_that_is_not_greater(self):
        self.refused(lines(*self.head, "b > a", "b > a"), 5)
        self.refused(lines(*self.head, "b > d", "b > a"), 5)
        self.refused(lines(*self.head, "c > a", "b > d"), 5)
        self.refused(lines(*self.head, "b > a", "c > a", "b > d"), 6)
        self.assertEqual(read_matrix(lines(*self.head, "b > d", "c > a"))[1], [("b", "d"), ("c", "a")])

    def test_a_last_level_that_is_not_nought(self):
        self.refused("1: a", 2)
        self.refused("7: a", 2)
        self.refused("2: a\n1: b", 3)
        self.refused("2: b\n1: a\nb > a", 4)
        self.refused("3: c\n2: b\n1: a\nb > a\nc > b", 6)

    def test_a_wrong_line_goes_ahead_of_the_last_level(self):
        self.refused("1: a\n", 2)
        self.refused("2: b\n1: a\nb > a\nb > a", 4)
        self.refused("2: b\n1: a\nb > a\n", 4)

    def test_the_first_of_several_wrong_lines(self):
        self.refused("1: A\n0: b a\nx", 1)
        self.refused("1: a\n0: b a\nx", 2)
        self.refused("1: a\n0: b\nx\ny", 3)

    def test_one_sign_taken_out_or_put_in_is_read_alike_or_refused(self):
        text = lines("2: c", "1: b", "0: a d", "b > a", "c > b")
        for place in range(len(text)):
            row = text[:place].count("\n") + 1
            for changed in (text[:place] + text[place + 1:], text[:place] + " " + text[place:],
                            text[:place] + "\n" + text[place:]):
                try:
                    found, pairs = read_matrix(changed)
                except NoMatrix as refusal:
                    self.assertGreaterEqual(refusal.row, row)
                else:
                    self.assertEqual(changed, lines(
                        *[f"{number}: {' '.join(found[number])}" for number in range(len(found) - 1, -1, -1)],
                        *[f"{first} > {second}" for first, second in pairs]))


if __name__ == "__main__":
    unittest.main()
