"""[11] ones: one_of and ones; [2] for what they are handed and what they tell."""

import random
import unittest

from digmatrix.ones import one_of, ones
from tests import helper


class OnesOf(unittest.TestCase):
    def told(self, units, rows, expected):
        whole = helper.telling(units, rows)
        self.assertEqual(ones(whole[1], whole[2]), expected)
        for members in expected:
            for unit in members:
                self.assertEqual(one_of(whole[1], whole[2], unit), members[0])

    def test_no_units(self):
        self.told("", "", [])

    def test_units_without_ties(self):
        self.told("a", "", [["a"]])
        self.told("c a b", "", [["a"], ["b"], ["c"]])

    def test_other_ties_join_nothing(self):
        self.told("b a", "over a b,cuts b a,fills a b,after a b 0,after b a 7", [["a"], ["b"]])

    def test_one_same_tie_either_way_round(self):
        self.told("a b", "same a b", [["a", "b"]])
        self.told("a b", "same b a", [["a", "b"]])
        self.told("b a", "same a b,same b a", [["a", "b"]])

    def test_a_unit_the_same_as_itself(self):
        self.told("b a", "same a a", [["a"], ["b"]])
        self.told("a b", "same a a,same b a,same b b", [["a", "b"]])

    def test_many_steps_in_every_direction(self):
        self.told("e d c b a", "same a b,same b c,same c d,same d e", [["a", "b", "c", "d", "e"]])
        self.told("e d c b a", "same e d,same d c,same c b,same b a", [["a", "b", "c", "d", "e"]])
        self.told("a b c d e", "same e b,same c d,same a d,same d e", [["a", "b", "c", "d", "e"]])
        self.told("a b c d", "same c d,same b c,same a b", [["a", "b", "c", "d"]])

    def test_two_that_were_joined_apart_are_joined_late(self):
        self.told("a b c d e f", "same e f,same c d,same d f,same b a", [["a", "b"], ["c", "d", "e", "f"]])

    def test_several_ones_by_their_names(self):
        self.told("z m y b x a", "same z b,same y a", [["a", "y"], ["b", "z"], ["m"], ["x"]])

    def test_names_are_compared_as_texts(self):
        self.told("10 9 a - aa b", "same 9 10,same aa b", [["-"], ["10", "9"], ["a"], ["aa", "b"]])

    def test_other_ties_between_same_ties(self):
        self.told("c b a", "over a c,same c b,over c c,after b a 3", [["a"], ["b", "c"]])

    def test_sixty_units_in_one(self):
        names = [f"u{number}" for number in range(60)]
        random.Random(1).shuffle(names)
        ties = [("same", first, second) for first, second in zip(names, names[1:])]
        random.Random(2).shuffle(ties)
        self.assertEqual(ones(names, ties), [sorted(names)])
        for name in names:
            self.assertEqual(one_of(names, ties, name), "u0")

    def test_against_joining_until_nothing_changes(self):
        for seed in range(300):
            with self.subTest(seed=seed):
                whole = helper.some_telling(random.Random(seed), most_units=12, sames=8, goes_round=True)
                names = helper.one_map(whole)
                for unit in whole[1]:
                    self.assertEqual(one_of(whole[1], whole[2], unit), names[unit])
                expected = [sorted(unit for unit in names if names[unit] == name) for name in helper.one_list(whole)]
                self.assertEqual(ones(whole[1], whole[2]), expected)


class ListsAndOwners(unittest.TestCase):
    def test_kinds(self):
        told = ones(["b", "a"], [("same", "a", "b")])
        self.assertIs(type(told), list)
        self.assertIs(type(told[0]), list)
        self.assertIs(type(one_of(["a"], [], "a")), str)

    def test_what_is_handed_in_stays_as_it_was(self):
        units, ties = ["c", "b", "a"], [("same", "c", "b"), ("over", "a", "b")]
        ones(units, ties)
        one_of(units, ties, "c")
        self.assertEqual((units, ties), (["c", "b", "a"], [("same", "c", "b"), ("over", "a", "b")]))

    def test_what_is_told_is_changed_and_asked_again(self):
        units, ties = ["c", "b", "a"], [("same", "c", "b")]
        told = ones(units, ties)
        told[1].append("x")
        told[0].clear()
        told.reverse()
        self.assertEqual(ones(units, ties), [["a"], ["b", "c"]])
        self.assertEqual(units, ["c", "b", "a"])

    def test_its_lists_are_several(self):
        told = ones(["a", "b"], [])
        told[0].append("x")
        self.assertEqual(told, [["a", "x"], ["b"]])

    def test_the_owner_changes_the_lists_behind_the_call(self):
        units, ties = ["b", "a"], []
        told = ones(units, ties)
        units.append("c")
        ties.append(("same", "a", "b"))
        self.assertEqual(told, [["a"], ["b"]])
        self.assertEqual(ones(units, ties), [["a", "b"], ["c"]])
        self.assertEqual(one_of(units, ties, "b"), "a")


if __name__ == "__main__":
    unittest.main()
