"""[14] the drawn matrix, [15] walks, [3] what it says of both; [2] for both."""

import random
import time
import unittest

from digmatrix.drawn import drawn, walk
from digmatrix.errors import Round
from tests import helper
from tests.helper import telling


def pairs_of(text):
    return [tuple(word.split(">")) for word in text.split()]


class Drawn(unittest.TestCase):
    def drawn_as(self, units, rows, expected):
        self.assertEqual(drawn(telling(units, rows)), pairs_of(expected))

    def test_no_units(self):
        self.drawn_as("", "", "")

    def test_units_without_ties(self):
        self.drawn_as("a", "", "")
        self.drawn_as("b a c", "", "")
        self.drawn_as("b a c", "same a b,same c c", "")

    def test_each_kind_of_tie(self):
        for kind in ("over", "cuts", "fills"):
            self.drawn_as("a b", kind + " a b", "a>b")
            self.drawn_as("a b", kind + " b a", "b>a")
        self.drawn_as("a b", "after a b 0", "a>b")
        self.drawn_as("a b", "after b a 12", "b>a")

    def test_pairs_that_a_longer_way_also_tells(self):
        self.drawn_as("a b c", "over a b,over b c,over a c", "a>b b>c")
        self.drawn_as("a b c", "over a c,over b c,over a b", "a>b b>c")
        self.drawn_as("a b c d", "over a b,over b c,over c d,over a d", "a>b b>c c>d")
        self.drawn_as("a b c d", "over a b,over b c,over c d,over a d,over a c,over b d", "a>b b>c c>d")
        self.drawn_as("a b c", "over a b,over b c,after a c 99", "a>b b>c")

    def test_two_ways_that_are_long_are_both_drawn(self):
        self.drawn_as("a b c d", "over a b,over b d,over a c,over c d", "a>b a>c b>d c>d")
        self.drawn_as("a b c d", "over a b,over b d,over a c,over c d,over a d", "a>b a>c b>d c>d")

    def test_each_once_however_often_it_is_told(self):
        self.drawn_as("a b", "over a b,cuts a b,fills a b,after a b 0,after a b 1,after a b 2", "a>b")
        self.drawn_as("a b c d", "over a b,over c d,over a d,over c b,same a c,same b d", "a>b")

    def test_between_ones(self):
        self.drawn_as("a b c d", "over d c,same d a", "a>c")
        self.drawn_as("a b c d", "over d c,over b d,over b c,same a d,same c c", "a>c b>a")
        self.drawn_as("a b c d", "over a b,over c d,same b c,over a d", "a>b b>d")

    def test_rising(self):
        self.drawn_as("c b a 10 9", "over c a,over b 9,over 10 9,over b 10,over c 9,over a 9", "10>9 a>9 b>10 c>a")
        self.drawn_as("e d c b a", "over e d,over e c,over e b,over a b,over a c,over a d", "a>b a>c a>d e>b e>c e>d")

    def test_against_the_words(self):
        for seed in range(400):
            with self.subTest(seed=seed):
                whole = helper.some_telling(random.Random(seed), most_units=10, most_ties=16, sames=seed % 2)
                if helper.round_size(whole) is not None:
                    continue
                above = helper.above_pairs(whole)
                told = {(upper, lower) for upper, lower, tie in helper.links(whole)}
                names = helper.one_list(whole)
                expected = [(first, second) for first, second in sorted(told)
                            if not any((first, third) in above and (third, second) in above for third in names)]
                self.assertEqual(drawn(whole), expected)


class Walks(unittest.TestCase):
    def is_walk(self, whole, first, last):
        names = helper.one_map(whole)
        told = walk(whole, first, last)
        self.assertIs(type(told), list)
        self.assertEqual((told[0], told[-1]), (names[first], names[last]))
        self.assertGreaterEqual(len(told), 2)
        pairs = drawn(whole)
        for pair in zip(told, told[1:]):
            self.assertIn(pair, pairs)

    def test_one_step_and_several(self):
        whole = telling("a b c d", "over a b,over b c,over c d,over a d")
        self.assertEqual(walk(whole, "a", "b"), ["a", "b"])
        self.assertEqual(walk(whole, "a", "d"), ["a", "b", "c", "d"])
        self.assertEqual(walk(whole, "b", "d"), ["b", "c", "d"])

    def test_to_a_one_that_does_not_lie_beneath(self):
        whole = telling("a b c d", "over a b,over c d")
        for first, last in (("b", "a"), ("a", "c"), ("a", "d"), ("d", "b"), ("b", "d")):
            self.assertEqual(walk(whole, first, last), [])

    def test_from_a_one_to_itself(self):
        whole = telling("a b", "over a b")
        self.assertEqual(walk(whole, "a", "a"), [])
        self.assertEqual(walk(whole, "b", "b"), [])

    def test_between_two_units_of_one_one(self):
        whole = telling("a b c", "same a b,over a c")
        self.assertEqual(walk(whole, "a", "b"), [])
        self.assertEqual(walk(whole, "b", "a"), [])

    def test_units_that_are_not_called_as_their_ones(self):
        whole = telling("a b c d x", "same a b,over b c,over c d,same d x")
        for first in "ab":
            for last in "dx":
                self.assertEqual(walk(whole, first, last), ["a", "c", "d"])
        self.assertEqual(walk(whole, "x", "b"), [])

    def test_it_takes_no_way_that_leads_elsewhere(self):
        whole = telling("a b c d e", "over a b,over a d,over d e,over b c")
        self.assertEqual(walk(whole, "a", "e"), ["a", "d", "e"])
        self.assertEqual(walk(whole, "a", "c"), ["a", "b", "c"])

    def test_one_of_several(self):
        whole = telling("a b c d", "over a b,over b d,over a c,over c d,over a d")
        self.assertIn(walk(whole, "a", "d"), (["a", "b", "d"], ["a", "c", "d"]))

    def test_each_tie_can_be_walked(self):
        for seed in range(150):
            with self.subTest(seed=seed):
                whole = helper.some_telling(random.Random(seed), most_units=9, most_ties=16, sames=seed % 2)
                if helper.round_size(whole) is not None:
                    continue
                for kind, first, last in [tie[:3] for tie in whole[2]]:
                    if kind == "same":
                        self.assertEqual(walk(whole, first, last), [])
                    else:
                        self.is_walk(whole, first, last)

    def test_a_walk_where_it_lies_beneath_and_none_elsewhere(self):
        for seed in range(60):
            with self.subTest(seed=seed):
                whole = helper.some_telling(random.Random(seed), most_units=7, most_ties=10, sames=seed % 2)
                if helper.round_size(whole) is not None:
                    continue
                above = helper.above_pairs(whole)
                names = helper.one_map(whole)
                for first in whole[1]:
                    for last in whole[1]:
                        if (names[first], names[last]) in above:
                            self.is_walk(whole, first, last)
                        else:
                            self.assertEqual(walk(whole, first, last), [])


class RefusedByRound(unittest.TestCase):
    def refused(self, whole, size):
        first, last = whole[1][0], whole[1][-1]
        for ask in (lambda: drawn(whole), lambda: walk(whole, first, last), lambda: walk(whole, first, first)):
            with self.assertRaises(Round) as caught:
                ask()
            self.assertIs(type(caught.exception), Round)
            self.assertTrue(helper.is_round(whole, caught.exception.ties))
            self.assertEqual(len(caught.exception.ties), size)

    def test_rounds_of_each_size(self):
        self.refused(telling("a", "over a a"), 1)
        self.refused(telling("a b c", "over a c,same b c,over b b"), 1)
        self.refused(telling("a b c", "over a b,same b c,over c a"), 2)
        self.refused(telling("a b c", "over a b,over b c,over c a"), 3)
        self.refused(telling("a b c d e", "over a b,over b c,over c a,over d e,over e d"), 2)

    def test_a_round_far_from_what_is_asked(self):
        whole = telling("a b c d", "over a b,over c d,over d c")
        with self.assertRaises(Round):
            walk(whole, "a", "b")
        with self.assertRaises(Round):
            walk(whole, "b", "a")


class GoodTime(unittest.TestCase):
    def test_sixty_units_and_two_hundred_ties(self):
        begun = time.process_time()
        whole = helper.great_telling(random.Random(3), finds=0)
        pairs = drawn(whole)
        self.assertEqual(pairs, sorted(set(pairs)))
        for tie in whole[2]:
            told = walk(whole, tie[1], tie[2])
            self.assertEqual((told[0], told[-1]), (tie[1], tie[2]))
            self.assertTrue(all(pair in pairs for pair in zip(told, told[1:])))
        self.assertLess(time.process_time() - begun, 30)

    def test_as_many_ways_down_as_ties_can_make(self):
        names = [f"u{level:02}-{place}" for level in range(20) for place in range(3)]
        ties = [("over", f"u{level:02}-{first}", f"u{level + 1:02}-{second}")
                for level in range(19) for first in range(3) for second in range(3)]
        whole = ((0, 9), names, ties + [("over", "u00-0", "u19-2")], [])
        self.assertEqual(drawn(whole), sorted((tie[1], tie[2]) for tie in ties))
        self.assertEqual(len(walk(whole, "u00-0", "u19-2")), 20)


class ListsAndOwners(unittest.TestCase):
    def test_kinds(self):
        told = drawn(telling("a b", "over a b"))
        self.assertEqual((type(told), type(told[0])), (list, tuple))
        self.assertIs(type(walk(telling("a"), "a", "a")), list)

    def test_what_is_handed_in_stays_as_it_was(self):
        whole = telling("c b a", "over a b,over b c,over a c,same a a", [("f", "a", 1, 2)])
        before = helper.frozen(whole)
        drawn(whole)
        walk(whole, "a", "c")
        self.assertEqual(helper.frozen(whole), before)

    def test_what_is_told_is_changed_and_asked_again(self):
        whole = telling("a b c", "over a b,over b c,over a c")
        pairs = drawn(whole)
        pairs.clear()
        path = walk(whole, "a", "c")
        path.reverse()
        walk(whole, "c", "a").append("x")
        self.assertEqual(drawn(whole), [("a", "b"), ("b", "c")])
        self.assertEqual(walk(whole, "a", "c"), ["a", "b", "c"])
        self.assertEqual(walk(whole, "c", "a"), [])

    def test_the_owner_changes_the_telling_behind_the_call(self):
        whole = telling("a b c", "over a b,over a c")
        pairs = drawn(whole)
        path = walk(whole, "a", "c")
        whole[2].append(("over", "b", "c"))
        self.assertEqual((pairs, path), ([("a", "b"), ("a", "c")], ["a", "c"]))
        self.assertEqual(drawn(whole), [("a", "b"), ("b", "c")])
        self.assertEqual(walk(whole, "a", "c"), ["a", "b", "c"])

    def test_the_field_of_round_is_the_askers_own(self):
        whole = telling("a", "over a a")
        for ask in (lambda: drawn(whole), lambda: walk(whole, "a", "a")):
            for asked in range(2):
                with self.assertRaises(Round) as caught:
                    ask()
                self.assertEqual(caught.exception.ties, [("over", "a", "a")])
                caught.exception.ties.clear()
        self.assertEqual(whole[2], [("over", "a", "a")])


if __name__ == "__main__":
    unittest.main()
