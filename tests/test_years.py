"""[16] what a dating is, [17] spans and datings, [3] what it says of years; [2] for all of these."""

import random
import time
import unittest

from digmatrix.errors import NoDating, NoYear, Round
from digmatrix.years import dating, is_dating, spans
from tests import helper
from tests.helper import telling

BIG = 10 ** 60 - 1


class IsDating(unittest.TestCase):
    def allowed(self, whole, *years):
        self.assertIs(is_dating(whole, list(zip(helper.one_list(whole), years))), True, years)

    def refused(self, whole, *years):
        self.assertIs(is_dating(whole, list(zip(helper.one_list(whole), years))), False, years)

    def test_no_units(self):
        self.allowed(telling(""))
        self.allowed(telling("", frame=(5, 5)))

    def test_one_beside_the_frame(self):
        whole = telling("a b", frame=(-3, 7))
        self.allowed(whole, -3, 7)
        self.allowed(whole, 7, -3)
        self.allowed(whole, 0, 0)
        self.refused(whole, -4, 0)
        self.refused(whole, 8, 0)
        self.refused(whole, 0, -4)
        self.refused(whole, 0, 8)
        self.allowed(telling("a", frame=(4, 4)), 4)
        self.refused(telling("a", frame=(4, 4)), 3)
        self.refused(telling("a", frame=(4, 4)), 5)

    def test_one_beside_a_finds_bounds(self):
        whole = telling("a b", "", [("f", "b", 10, 20)])
        self.allowed(whole, 0, 10)
        self.allowed(whole, 9999, 20)
        self.refused(whole, 15, 9)
        self.refused(whole, 15, 21)

    def test_all_finds_in_all_units_of_a_one(self):
        whole = telling("a b c", "same c b,same a b", [("f", "b", 10, 20), ("g", "c", 15, 30), ("h", "a", 0, 18)])
        for year in range(0, 40):
            (self.allowed if 15 <= year <= 18 else self.refused)(whole, year)

    def test_finds_that_reach_beyond_the_frame(self):
        whole = telling("a", "", [("f", "a", -50, 50)], (0, 9))
        self.allowed(whole, 0)
        self.allowed(whole, 9)
        self.refused(whole, -1)
        self.refused(whole, 10)

    def test_one_less_than_a_tie_asks(self):
        for kind in ("over", "cuts", "fills"):
            whole = telling("a b", kind + " a b")
            self.allowed(whole, 5, 5)
            self.allowed(whole, 6, 5)
            self.refused(whole, 4, 5)

    def test_one_less_than_a_gap_asks(self):
        whole = telling("a b", "after a b 7")
        self.allowed(whole, 12, 5)
        self.allowed(whole, 13, 5)
        self.refused(whole, 11, 5)
        self.refused(whole, 5, 12)
        self.allowed(telling("a b", "after a b 0"), 5, 5)
        self.refused(telling("a b", "after a b 0"), 4, 5)

    def test_every_tie_is_kept(self):
        whole = telling("a b", "over a b,after a b 3,cuts a b,after a b 5,after a b 4")
        self.allowed(whole, 10, 5)
        self.refused(whole, 9, 5)

    def test_ties_between_ones(self):
        whole = telling("a b c d", "same a d,after d c 2,after b a 3")
        self.allowed(whole, 4, 7, 2)
        self.refused(whole, 4, 6, 2)
        self.refused(whole, 4, 7, 3)

    def test_same_ties_ask_for_nothing_more(self):
        self.allowed(telling("a b", "same a b,same b a,same a a"), 3)

    def test_a_telling_whose_ties_go_round(self):
        whole = telling("a b", "over a b,over b a")
        self.allowed(whole, 5, 5)
        self.refused(whole, 5, 6)
        self.refused(whole, 6, 5)
        self.allowed(telling("a", "over a a,after a a 0"), 5)
        self.refused(telling("a", "after a a 1"), 5)
        self.allowed(telling("a b", "same a b,cuts a b"), 5)
        self.allowed(telling("a b", "after a b 0,after b a 0"), 5, 5)
        self.refused(telling("a b", "after a b 1,after b a 0"), 5, 5)

    def test_a_telling_without_a_dating(self):
        whole = telling("a", "", [("f", "a", 1, 2), ("g", "a", 3, 4)])
        for year in range(6):
            self.refused(whole, year)

    def test_numbers_of_sixty_figures(self):
        whole = telling("a b", f"after a b {BIG}", frame=(-BIG, BIG))
        self.allowed(whole, BIG, 0)
        self.allowed(whole, BIG, -1)
        self.refused(whole, BIG, 1)
        self.refused(whole, BIG - 1, 0)

    def test_names_other_than_those_of_all_ones(self):
        whole = telling("a b c", "same b c")
        for pairs in ([], [("a", 1)], [("b", 1), ("a", 1)], [("a", 1), ("b", 1), ("c", 1)], [("a", 1), ("c", 1)]):
            self.assertIs(is_dating(whole, pairs), False)

    def test_against_the_words(self):
        for seed in range(300):
            with self.subTest(seed=seed):
                chance = random.Random(seed)
                whole = helper.some_telling(chance, sames=seed % 3, most_finds=3, most_ties=4, goes_round=seed % 2 == 0)
                names = helper.one_list(whole)
                for number in range(20):
                    years = {name: chance.randint(-1, 6) for name in names}
                    self.assertIs(is_dating(whole, list(years.items())), helper.allows(whole, years))


class Spans(unittest.TestCase):
    def spanned(self, whole, expected):
        told = [(name, int(low), int(high)) for name, low, high in (word.split(":") for word in expected.split())]
        self.assertEqual(spans(whole), told)
        first = [(name, low) for name, low, high in told]
        last = [(name, high) for name, low, high in told]
        self.assertIs(is_dating(whole, first), True)
        self.assertIs(is_dating(whole, last), True)

    def test_no_units(self):
        self.spanned(telling(""), "")

    def test_the_frame_alone(self):
        self.spanned(telling("a", frame=(4, 4)), "a:4:4")
        self.spanned(telling("b a", frame=(-7, 12)), "a:-7:12 b:-7:12")
        self.spanned(telling("b a", "over a b", frame=(3, 3)), "a:3:3 b:3:3")
        self.spanned(telling("b a c", "over a b,cuts c a", frame=(-7, 12)), "a:-7:12 b:-7:12 c:-7:12")

    def test_a_find_in_the_one_itself(self):
        self.spanned(telling("a", "", [("f", "a", 10, 20)]), "a:10:20")
        self.spanned(telling("a", "", [("f", "a", 10, 10)]), "a:10:10")
        self.spanned(telling("a", "", [("f", "a", -10, 20)], (0, 15)), "a:0:15")
        self.spanned(telling("a", "", [("f", "a", 0, 20), ("g", "a", 10, 30)]), "a:10:20")

    def test_finds_in_several_units_of_one_one(self):
        whole = telling("c b a", "same a c,same c b", [("f", "a", 0, 20), ("g", "b", 10, 30), ("h", "c", 5, 17)])
        self.spanned(whole, "a:10:17")

    def test_a_find_bounds_those_above_and_beneath(self):
        for kind in ("over", "cuts", "fills"):
            whole = telling("a b c", f"{kind} a b,{kind} b c", [("f", "b", 100, 200)])
            self.spanned(whole, "a:100:9999 b:100:200 c:0:200")

    def test_gaps(self):
        finds = [("f", "b", 100, 200)]
        self.spanned(telling("a b c", "after a b 0,after b c 0", finds), "a:100:9999 b:100:200 c:0:200")
        self.spanned(telling("a b c", "after a b 7,after b c 30", finds), "a:107:9999 b:100:200 c:0:170")
        self.spanned(telling("a b c", "after a b 9799,after b c 200", finds), "a:9999:9999 b:200:200 c:0:0")

    def test_gaps_from_the_frame(self):
        self.spanned(telling("a b c", "after a b 7,after b c 30", frame=(0, 100)), "a:37:100 b:30:93 c:0:63")
        self.spanned(telling("a b", "after a b 100", frame=(0, 100)), "a:100:100 b:0:0")

    def test_gaps_by_several_ways(self):
        rows = "after a b 3,after b d 4,after a c 5,after c d 1,after a d 2,over a d"
        self.spanned(telling("a b c d", rows, [("f", "d", 50, 60)], (0, 70)), "a:57:70 b:54:67 c:51:65 d:50:60")
        self.spanned(telling("a b c d", rows, [("f", "a", 50, 60)]), "a:50:60 b:4:57 c:1:55 d:0:53")
        self.spanned(telling("a b", "after a b 3,after a b 9,over a b,after a b 5", frame=(0, 20)), "a:9:20 b:0:11")

    def test_between_ones(self):
        whole = telling("a b c d", "same a d,after d c 2,after b a 3,same c c", [("f", "d", 10, 20)])
        self.spanned(whole, "a:10:20 b:13:9999 c:0:18")

    def test_years_below_nought(self):
        whole = telling("a b", "after a b 15", [("f", "b", -90, -30), ("g", "a", -80, -20)], (-100, -1))
        self.spanned(whole, "a:-75:-20 b:-90:-35")
        self.spanned(telling("a b", "after a b 15", [("f", "b", -10, 8)], (-20, 20)), "a:5:20 b:-10:5")

    def test_numbers_of_sixty_figures(self):
        self.spanned(telling("a", frame=(-BIG, BIG)), f"a:{-BIG}:{BIG}")
        self.spanned(telling("a b", f"after a b {BIG}", frame=(-BIG, BIG)), f"a:0:{BIG} b:{-BIG}:0")
        whole = telling("a b", f"after a b {BIG - 5}", [("f", "b", 2, BIG)], (-BIG, BIG))
        self.spanned(whole, f"a:{BIG - 3}:{BIG} b:2:5")

    def test_against_all_datings(self):
        without = 0
        for seed in range(300):
            with self.subTest(seed=seed):
                chance = random.Random(seed)
                whole = helper.some_telling(chance, most_units=4, most_ties=5, sames=seed % 2, most_finds=3, frame=(-2, 3))
                if helper.round_size(whole) is not None:
                    continue
                made = helper.all_datings(whole)
                if not made:
                    without += 1
                    with self.assertRaises(NoDating):
                        spans(whole)
                    continue
                names = helper.one_list(whole)
                expected = [(name, min(years[name] for years in made), max(years[name] for years in made))
                            for name in names]
                self.assertEqual(spans(whole), expected)
                # What [17] says of the years between, by the slow answer: so the span says all.
                for name, low, high in expected:
                    self.assertEqual({years[name] for years in made}, set(range(low, high + 1)))
        self.assertGreater(without, 20)


class Datings(unittest.TestCase):
    whole = ((0, 100), ["c", "b", "a"], [("after", "a", "b", 10), ("over", "b", "c")], [("f", "b", 20, 50)])

    def dated(self, whole, name, year):
        told = dating(whole, name, year)
        self.assertIs(type(told), list)
        self.assertTrue(all(type(pair) is tuple and len(pair) == 2 for pair in told))
        self.assertEqual([pair[0] for pair in told], helper.one_list(whole))
        self.assertTrue(helper.allows(whole, dict(told)), told)
        self.assertIs(is_dating(whole, told), True)
        self.assertEqual(dict(told)[helper.one_map(whole)[name]], year)

    def refused(self, whole, name, year, error=NoYear):
        with self.assertRaises(error) as caught:
            dating(whole, name, year)
        self.assertIs(type(caught.exception), error)

    def test_low_high_and_between(self):
        for name, low, high in (("a", 30, 100), ("b", 20, 50), ("c", 0, 50)):
            for year in (low, low + 1, (low + high) // 2, high - 1, high):
                self.dated(self.whole, name, year)

    def test_one_below_and_one_above(self):
        for name, low, high in (("a", 30, 100), ("b", 20, 50), ("c", 0, 50)):
            for year in (low - 1, high + 1, low - 1000, high + 1000):
                self.refused(self.whole, name, year)

    def test_one_year_alone(self):
        whole = telling("a", frame=(5, 5))
        self.dated(whole, "a", 5)
        self.refused(whole, "a", 4)
        self.refused(whole, "a", 6)

    def test_a_unit_that_is_not_called_as_its_one(self):
        whole = telling("a b c", "same b c,after a c 3", [("f", "b", 5, 9)])
        self.assertEqual([pair[0] for pair in dating(whole, "c", 7)], ["a", "b"])
        for name in ("b", "c"):
            for year in range(5, 10):
                self.dated(whole, name, year)
            self.refused(whole, name, 4)
            self.refused(whole, name, 10)

    def test_years_below_nought_and_of_sixty_figures(self):
        whole = telling("a b", "after a b 15", frame=(-100, -1))
        for year in (-85, -84, -1):
            self.dated(whole, "a", year)
        self.refused(whole, "a", -86)
        self.refused(whole, "a", 0)
        whole = telling("a b", f"after a b {BIG}", frame=(-BIG, BIG))
        for year in (0, 1, BIG - 1, BIG):
            self.dated(whole, "a", year)
        self.refused(whole, "a", -1)
        self.refused(whole, "b", 1)

    def test_each_year_of_each_span(self):
        for seed in range(150):
            with self.subTest(seed=seed):
                chance = random.Random(seed)
                whole = helper.some_telling(chance, most_units=6, most_ties=8, sames=seed % 2, most_finds=2, frame=(-3, 6))
                try:
                    told = spans(whole)
                except (Round, NoDating):
                    continue
                for name, low, high in told:
                    for year in range(low, high + 1):
                        self.dated(whole, name, year)
                    self.refused(whole, name, low - 1)
                    self.refused(whole, name, high + 1)


class RefusedInTheirOrder(unittest.TestCase):
    def refused(self, whole, error):
        asked = [lambda: spans(whole)]
        for name in whole[1]:
            asked.append(lambda name=name: dating(whole, name, whole[0][0]))
            asked.append(lambda name=name: dating(whole, name, whole[0][0] - 1))
            asked.append(lambda name=name: dating(whole, name, whole[0][1] + 1))
        for ask in asked:
            with self.assertRaises(error) as caught:
                ask()
            self.assertIs(type(caught.exception), error)

    def test_round_goes_ahead_of_no_dating(self):
        self.refused(telling("a", "over a a", [("f", "a", 1, 2), ("g", "a", 3, 4)]), Round)
        self.refused(telling("a b c", "over a b,over b a", [("f", "c", 1, 2), ("g", "c", 3, 4)]), Round)
        self.refused(telling("a b", "after a b 5,over b a", frame=(0, 3)), Round)
        self.refused(telling("a b", "same a b,after a b 0"), Round)

    def test_both_go_ahead_of_no_year(self):
        self.refused(telling("a b", "over a b,over b a"), Round)
        self.refused(telling("a b c", "over a b,over b a"), Round)
        self.refused(telling("a b", "", [("f", "b", 1, 2), ("g", "b", 3, 4)]), NoDating)
        self.refused(telling("a b", "after a b 5", frame=(0, 3)), NoDating)

    def test_the_told_round_is_as_short_as_any(self):
        whole = telling("a b c d e", "over a b,over b c,over c a,over d e,over e d")
        for ask in (lambda: spans(whole), lambda: dating(whole, "a", 3)):
            with self.assertRaises(Round) as caught:
                ask()
            self.assertTrue(helper.is_round(whole, caught.exception.ties))
            self.assertEqual(len(caught.exception.ties), 2)


class GoodTime(unittest.TestCase):
    def test_sixty_units_two_hundred_ties_and_a_hundred_finds(self):
        begun = time.process_time()
        for seed in range(3):
            whole = helper.great_telling(random.Random(seed))
            told = spans(whole)
            self.assertIs(is_dating(whole, [(name, low) for name, low, high in told]), True)
            self.assertIs(is_dating(whole, [(name, high) for name, low, high in told]), True)
            for name, low, high in told:
                for year in (low, (low + high) // 2, high):
                    made = dating(whole, name, year)
                    self.assertEqual(dict(made)[name], year)
                    self.assertTrue(helper.allows(whole, dict(made)))
        self.assertLess(time.process_time() - begun, 60)

    def test_as_many_ways_down_as_ties_can_make(self):
        names = [f"u{level:02}-{place}" for level in range(20) for place in range(3)]
        ties = [("after", f"u{level:02}-{first}", f"u{level + 1:02}-{second}", first + second)
                for level in range(19) for first in range(3) for second in range(3)]
        told = spans(((0, 76), names, ties, []))
        self.assertEqual([span for span in told if span[0] in ("u00-2", "u19-2")], [("u00-2", 76, 76), ("u19-2", 0, 0)])


class ListsAndOwners(unittest.TestCase):
    def whole(self):
        return telling("b a c", "after a b 3,same c c,over a c", [("f", "b", 5, 9)], (0, 20))

    def test_kinds(self):
        told = spans(self.whole())
        self.assertIs(type(told), list)
        self.assertEqual([type(span) for span in told], [tuple] * 3)
        self.assertEqual([type(part) for part in told[0]], [str, int, int])

    def test_what_is_handed_in_stays_as_it_was(self):
        whole = self.whole()
        before = helper.frozen(whole)
        pairs = [("a", 10), ("b", 6), ("c", 7)]
        is_dating(whole, pairs)
        spans(whole)
        dating(whole, "a", 12)
        with self.assertRaises(NoYear):
            dating(whole, "a", 21)
        self.assertEqual(helper.frozen(whole), before)
        self.assertEqual(pairs, [("a", 10), ("b", 6), ("c", 7)])

    def test_what_is_told_is_changed_and_asked_again(self):
        whole = self.whole()
        first = spans(whole)
        expected = list(first)
        first.clear()
        self.assertEqual(spans(whole), expected)
        made = dating(whole, "b", 6)
        kept = list(made)
        made.reverse()
        made.append("x")
        self.assertEqual(dating(whole, "b", 6), kept)

    def test_nothing_asked_later_changes_what_was_told(self):
        whole = self.whole()
        first = spans(whole)
        made = dating(whole, "b", 6)
        kept = (list(first), list(made))
        whole[3].append(("g", "b", 8, 8))
        spans(whole)
        dating(whole, "b", 8)
        self.assertEqual((first, made), kept)
        self.assertEqual(spans(whole)[1], ("b", 8, 8))


if __name__ == "__main__":
    unittest.main()
