"""The interface's digmatrix/errors.py, and [2] for the fields of refusals."""

import unittest

from digmatrix import errors

UNDER_TEXT = ("BadRow", "BadName", "BadNumber", "BadSpan", "BadTwice", "BadUnit")
PLAIN = ("NoYear", "Twice", "NoUnit", "NoTie", "NoFind", "InUse", "NoDeed")
UNDER_DIG = ("TextError", "Round", "NoDating", "NoMatrix") + PLAIN
ALL = ("DigError",) + UNDER_DIG + UNDER_TEXT


def parents_of(name):
    if name in UNDER_TEXT:
        return {name, "TextError", "DigError"}
    return {name, "DigError"}


class WhatStandsUnderWhat(unittest.TestCase):
    def test_each_stands_under_just_what_is_told(self):
        for name in ALL:
            for other in ALL:
                with self.subTest(name=name, other=other):
                    under = issubclass(getattr(errors, name), getattr(errors, other))
                    self.assertEqual(under, other in parents_of(name))

    def test_any_refusal_is_a_value_error(self):
        for name in ALL:
            with self.subTest(name=name):
                self.assertTrue(issubclass(getattr(errors, name), ValueError))

    def test_they_stand_under_no_other_error_of_pythons(self):
        for name in ALL:
            with self.subTest(name=name):
                for other in (LookupError, ArithmeticError, UnicodeError, RuntimeError, TypeError):
                    self.assertFalse(issubclass(getattr(errors, name), other))

    def test_plain_ones_are_made_raised_and_taken(self):
        for name in ("DigError",) + PLAIN:
            with self.subTest(name=name):
                made = getattr(errors, name)
                with self.assertRaises(errors.DigError) as caught:
                    raise made()
                self.assertIs(type(caught.exception), made)


class RowFields(unittest.TestCase):
    def test_text_errors_keep_their_row(self):
        for name in ("TextError",) + UNDER_TEXT:
            for row in (0, 1, 7, 10000):
                with self.subTest(name=name, row=row):
                    made = getattr(errors, name)
                    with self.assertRaises(errors.TextError) as caught:
                        raise made(row)
                    self.assertIs(type(caught.exception), made)
                    self.assertEqual(caught.exception.row, row)

    def test_no_matrix_keeps_its_row(self):
        for row in (0, 1, 12):
            self.assertEqual(errors.NoMatrix(row).row, row)

    def test_each_object_has_its_own_row(self):
        first = errors.BadRow(3)
        second = errors.BadRow(4)
        self.assertEqual((first.row, second.row), (3, 4))


class RoundField(unittest.TestCase):
    def test_it_has_the_ties(self):
        ties = [("over", "a", "b"), ("after", "b", "a", 3)]
        told = errors.Round(ties).ties
        self.assertIs(type(told), list)
        self.assertEqual(told, [("over", "a", "b"), ("after", "b", "a", 3)])

    def test_the_list_is_its_own(self):
        ties = [("over", "a", "a")]
        refusal = errors.Round(ties)
        ties.append(("cuts", "a", "a"))
        self.assertEqual(refusal.ties, [("over", "a", "a")])

    def test_what_was_handed_in_stays_as_it_was(self):
        ties = [("over", "a", "a")]
        first = errors.Round(ties)
        second = errors.Round(ties)
        first.ties.clear()
        self.assertEqual(ties, [("over", "a", "a")])
        self.assertEqual(second.ties, [("over", "a", "a")])


class NoDatingField(unittest.TestCase):
    def test_it_has_the_row(self):
        row = ("coin", [("after", "b", "a", 3)], "")
        told = errors.NoDating(row).row
        self.assertIs(type(told), tuple)
        self.assertIs(type(told[1]), list)
        self.assertEqual(told, ("coin", [("after", "b", "a", 3)], ""))

    def test_a_row_without_ties(self):
        self.assertEqual(errors.NoDating(("f", [], "g")).row, ("f", [], "g"))

    def test_its_ties_are_a_list_of_its_own(self):
        ties = [("over", "b", "a")]
        refusal = errors.NoDating(("f", ties, "g"))
        ties.append(("over", "c", "b"))
        self.assertEqual(refusal.row, ("f", [("over", "b", "a")], "g"))

    def test_what_was_handed_in_stays_as_it_was(self):
        row = ("f", [("over", "b", "a")], "g")
        first = errors.NoDating(row)
        second = errors.NoDating(row)
        first.row[1].clear()
        self.assertEqual(row, ("f", [("over", "b", "a")], "g"))
        self.assertEqual(second.row, ("f", [("over", "b", "a")], "g"))


if __name__ == "__main__":
    unittest.main()
