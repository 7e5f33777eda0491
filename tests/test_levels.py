"""[21] levels, [22] periods; [2] for both."""

import random
import time
import unittest

from digmatrix.errors import Round
from digmatrix.levels import levels, period_of
from tests import helper
from tests.helper import telling


class Levels(unittest.TestCase):
    def leveled(self, units, rows, expected):
        self.assertEqual(levels(telling(units, rows)), [row.split() for row in expected.split("/") if row])

    def test_no_units(self):
        self.assertEqual(levels(telling("")), [])

    def test_units_without_ties(self):
        self.leveled("a", "", "a")
        self.leveled("c a b 10 9", "", "10 9 a b c")

    def test_one_more_than_the_greatest_beneath(self):
        for kind in ("over", "cuts", "fills"):
            self.leveled("a b", kind + " a b", "b/a")
        self.leveled("a b", "after a b 0", "b/a")
        self.leveled("a b", "after a b 50", "b/a")
        self.leveled("a b c d", "over a b,over b c,over a d", "c d/b/a")
        self.leveled("a b c d", "over a d,over a b,over b c,over c d", "d/c/b/a")
        self.leveled("a b c d e", "over a b,over c d,over d e", "b e/a d/c")

    def test_a_tie_told_more_than_once(self):
        self.leveled("a b", "over a b,cuts a b,after a b 1,after a b 2", "b/a")

    def test_names_rising_in_each(self):
        self.leveled("z y x c b a", "over a z,over b y,over c x", "x y z/a b c")
        self.leveled("z y x c b a", "over a z,over b y,over c b,over x a", "y z/a b/c x")

    def test_ones(self):
        self.leveled("a b c d", "same a d,over d b,over c a", "b/a/c")
        self.leveled("a b c d", "same d c,same b c,over b a", "a/b")

    def test_finds_and_frames_say_nothing_of_it(self):
        whole = telling("a b", "after b a 9", [("f", "a", 5, 6), ("g", "b", 0, 1)], (7, 7))
        self.assertEqual(levels(whole), [["a"], ["b"]])

    def test_against_the_words(self):
        for seed in range(300):
            with self.subTest(seed=seed):
                whole = helper.some_telling(random.Random(seed), most_units=10, most_ties=14, sames=seed % 2)
                if helper.round_size(whole) is not None:
                    continue
                above = helper.above_pairs(whole)

                def level(name):
                    return max((level(lower) + 1 for upper, lower in above if upper == name), default=0)

                names = helper.one_list(whole)
                greatest = max(level(name) for name in names)
                expected = [[name for name in names if level(name) == number] for number in range(greatest + 1)]
                self.assertEqual(levels(whole), expected)

    def test_refused_by_round(self):
        for rows, size in (("over a a", 1), ("over a b,over b c,over c a,same d d", 3), ("over a b,same b c,cuts c a", 2),
                           ("over a b,over b c,over c a,over d d", 1)):
            whole = telling("a b c d", rows)
            with self.assertRaises(Round) as caught:
                levels(whole)
            self.assertTrue(helper.is_round(whole, caught.exception.ties))
            self.assertEqual(len(caught.exception.ties), size)

    def test_sixty_levels_and_as_many_ways_as_ties_can_make(self):
        begun = time.process_time()
        names = [f"u{number:02}" for number in range(60)]
        ties = [("over", upper, lower) for lower, upper in zip(names, names[1:])]
        ties += [("over", upper, lower) for lower, upper in zip(names, names[2:])]
        ties += [("over", upper, lower) for lower, upper in zip(names, names[3:])]
        random.Random(7).shuffle(ties)
        self.assertEqual(levels(((0, 9), names, ties, [])), [[name] for name in names])
        self.assertLess(time.process_time() - begun, 20)

    def test_lists_and_owners(self):
        whole = telling("c b a", "over a b")
        before = helper.frozen(whole)
        told = levels(whole)
        self.assertEqual((type(told), type(told[0])), (list, list))
        told[0].append("x")
        told.reverse()
        self.assertEqual(levels(whole), [["b", "c"], ["a"]])
        kept = levels(whole)
        self.assertEqual(helper.frozen(whole), before)
        whole[2].clear()
        self.assertEqual(kept, [["b", "c"], ["a"]])
        empty = levels(telling(""))
        empty.append("x")
        self.assertEqual(levels(telling("")), [])


class Periods(unittest.TestCase):
    # Early and middle touch; there is a hole between middle and late.
    periods = [("early", 0, 99), ("middle", 100, 199), ("late", 300, 399)]

    def told(self, low, high, word, names=""):
        self.assertEqual(period_of(low, high, self.periods), (word, names.split()))

    def test_in_one_period(self):
        for low, high in ((0, 99), (0, 0), (99, 99), (50, 60), (1, 98)):
            self.told(low, high, "sure", "early")
        self.told(100, 199, "sure", "middle")
        self.told(300, 399, "sure", "late")

    def test_in_two_and_in_all(self):
        self.told(99, 100, "maybe", "early middle")
        self.told(0, 199, "maybe", "early middle")
        self.told(150, 350, "maybe", "middle late")
        self.told(199, 300, "maybe", "middle late")
        self.told(99, 300, "maybe", "early middle late")
        self.told(-5, 5000, "maybe", "early middle late")

    def test_partly_in_one(self):
        self.told(-1, 99, "maybe", "early")
        self.told(-1, 0, "maybe", "early")
        self.told(199, 200, "maybe", "middle")
        self.told(199, 299, "maybe", "middle")
        self.told(200, 300, "maybe", "late")
        self.told(399, 400, "maybe", "late")
        self.told(299, 400, "maybe", "late")

    def test_in_none(self):
        self.told(200, 299, "none")
        self.told(200, 200, "none")
        self.told(250, 260, "none")
        self.told(-50, -1, "none")
        self.told(-1, -1, "none")
        self.told(400, 400, "none")
        self.told(400, 999, "none")

    def test_no_periods(self):
        self.assertEqual(period_of(3, 7, []), ("none", []))
        self.assertEqual(period_of(3, 3, []), ("none", []))

    def test_periods_of_one_year(self):
        periods = [("b", 5, 5), ("a", 6, 6)]
        self.assertEqual(period_of(5, 5, periods), ("sure", ["b"]))
        self.assertEqual(period_of(5, 6, periods), ("maybe", ["b", "a"]))
        self.assertEqual(period_of(6, 7, periods), ("maybe", ["a"]))
        self.assertEqual(period_of(4, 4, periods), ("none", []))

    def test_years_below_nought_and_of_sixty_figures(self):
        big = 10 ** 60 - 1
        periods = [("old", -big, -1), ("new", 0, big)]
        self.assertEqual(period_of(-big, -1, periods), ("sure", ["old"]))
        self.assertEqual(period_of(-big, big, periods), ("maybe", ["old", "new"]))
        self.assertEqual(period_of(big, big, periods), ("sure", ["new"]))

    def test_against_each_year(self):
        for seed in range(300):
            chance = random.Random(seed)
            years = sorted(chance.sample(range(-10, 15), 2 * chance.randint(0, 4)))
            periods = [(f"p{chance.randint(0, 99)}", first, last) for first, last in zip(years[::2], years[1::2])]
            low, high = sorted(chance.randint(-12, 17) for number in range(2))
            has = [name for name, first, last in periods
                   if set(range(first, last + 1)) & set(range(low, high + 1))]
            within = [name for name, first, last in periods
                      if set(range(low, high + 1)) <= set(range(first, last + 1))]
            expected = ("sure", within) if within else ("maybe", has) if has else ("none", [])
            self.assertEqual(period_of(low, high, periods), expected)

    def test_lists_and_owners(self):
        periods = list(self.periods)
        for low, high in ((0, 5), (0, 150), (250, 260)):
            first = period_of(low, high, periods)
            kept = (first[0], list(first[1]))
            self.assertEqual((type(first), type(first[1])), (tuple, list))
            first[1].append("x")
            self.assertEqual(period_of(low, high, periods), kept)
        self.assertEqual(periods, self.periods)


if __name__ == "__main__":
    unittest.main()
