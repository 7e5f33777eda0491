"""[18] chains up and down, [19] reasons, [3] that they show that no other year can be; [2] for both."""

import random
import time
import unittest

from digmatrix.chains import reasons
from digmatrix.errors import NoDating, Round
from digmatrix.years import spans
from tests import helper
from tests.helper import telling


class ReasonTests(unittest.TestCase):
    def shown(self, whole):
        """The reasons of each unit show the very ends of its one's span."""
        ends = {name: (low, high) for name, low, high in spans(whole)}
        names = helper.one_map(whole)
        for unit in whole[1]:
            told = reasons(whole, unit)
            self.assertIs(type(told), tuple)
            self.assertEqual([type(chain) for chain in told], [tuple, tuple])
            self.assertEqual([len(chain) for chain in told], [2, 2])
            self.assertEqual([type(chain[1]) for chain in told], [list, list])
            self.assertEqual(helper.year_of_chain_up(whole, told[0], names[unit]), ends[names[unit]][0])
            self.assertEqual(helper.year_of_chain_down(whole, told[1], names[unit]), ends[names[unit]][1])

    def told(self, whole, name, up, down):
        self.shown(whole)
        self.assertEqual(reasons(whole, name), (up, down))


class Reasons(ReasonTests):
    def test_the_frame_alone(self):
        self.told(telling("a", frame=(4, 4)), "a", ("", []), ("", []))
        self.told(telling("a b", frame=(-4, 40)), "b", ("", []), ("", []))

    def test_a_find_without_ties(self):
        self.told(telling("a", "", [("coin", "a", 10, 20)]), "a", ("coin", []), ("coin", []))
        whole = telling("a", "", [("f", "a", 10, 30), ("g", "a", 0, 20)])
        self.told(whole, "a", ("f", []), ("g", []))
        self.told(telling("a", "", [("f", "a", 10, 30)], (20, 25)), "a", ("", []), ("", []))

    def test_a_find_called_as_a_unit(self):
        whole = telling("a b", "over a b", [("a", "b", 10, 20)])
        self.told(whole, "a", ("a", [("over", "a", "b")]), ("", []))
        self.told(whole, "b", ("a", []), ("a", []))

    def test_up_from_a_find(self):
        whole = telling("a b c", "over a b,after b c 5", [("f", "c", 10, 9999)])
        self.told(whole, "a", ("f", [("after", "b", "c", 5), ("over", "a", "b")]), ("", []))
        self.told(whole, "b", ("f", [("after", "b", "c", 5)]), ("", []))

    def test_down_from_a_find(self):
        whole = telling("a b c", "over a b,after b c 5", [("f", "a", 0, 50)])
        self.assertEqual(reasons(whole, "c")[1], ("f", [("after", "b", "c", 5), ("over", "a", "b")]))
        self.assertEqual(reasons(whole, "b")[1], ("f", [("over", "a", "b")]))
        self.assertEqual(reasons(whole, "a")[1], ("f", []))
        self.shown(whole)

    def test_from_the_frame_by_ties(self):
        whole = telling("a b c", "after a b 7,after b c 5", frame=(0, 100))
        both = [("after", "b", "c", 5), ("after", "a", "b", 7)]
        self.told(whole, "a", ("", both), ("", []))
        self.told(whole, "b", ("", both[:1]), ("", both[1:]))
        self.told(whole, "c", ("", []), ("", both))

    def test_the_way_of_the_greatest_gaps(self):
        rows = "after a b 3,after b d 4,after a c 5,after c d 1,after a d 2,over a d"
        whole = telling("a b c d", rows, [("f", "d", 50, 60), ("g", "a", 0, 66)])
        ties = [("after", "b", "d", 4), ("after", "a", "b", 3)]
        self.told(whole, "a", ("f", ties), ("g", []))
        self.assertEqual(reasons(whole, "d"), (("f", []), ("g", ties)))

    def test_of_several_ties_between_two_that_of_the_greatest_gap(self):
        whole = telling("a b", "over a b,after a b 3,after a b 9,after a b 5", [("f", "b", 50, 60)])
        self.told(whole, "a", ("f", [("after", "a", "b", 9)]), ("", []))

    def test_of_several_finds_that_of_the_sharpest_bound(self):
        finds = [("f", "b", 10, 90), ("g", "b", 30, 100), ("h", "b", 20, 80), ("i", "a", 35, 200), ("j", "c", 0, 79)]
        whole = telling("a b c", "after a b 2,over b c", finds)
        self.told(whole, "b", ("g", []), ("h", []))
        self.told(whole, "a", ("i", []), ("i", []))
        self.assertEqual(reasons(whole, "c")[1], ("j", []))

    def test_between_ones(self):
        whole = telling("a b c d", "same a d,after d c 2,after b a 3,same c c", [("f", "d", 10, 20)])
        for name in ("a", "d"):
            self.told(whole, name, ("f", []), ("f", []))
        self.told(whole, "b", ("f", [("after", "b", "a", 3)]), ("", []))
        self.told(whole, "c", ("", []), ("f", [("after", "d", "c", 2)]))

    def test_years_below_nought_and_of_sixty_figures(self):
        big = 10 ** 60 - 1
        self.shown(telling("a b", "after a b 15", [("f", "b", -90, -30), ("g", "a", -80, -20)], (-100, -1)))
        self.shown(telling("a b", f"after a b {big}", frame=(-big, big)))

    def test_tellings_by_chance(self):
        seen = 0
        for seed in range(300):
            with self.subTest(seed=seed):
                chance = random.Random(seed)
                whole = helper.some_telling(chance, 8, 10, sames=seed % 3, most_finds=4, frame=(-5, 20), gap=4)
                try:
                    spans(whole)
                except (Round, NoDating):
                    continue
                seen += 1
                self.shown(whole)
        self.assertGreater(seen, 60)

    def test_sixty_units_two_hundred_ties_and_a_hundred_finds(self):
        begun = time.process_time()
        self.shown(helper.great_telling(random.Random(8)))
        self.assertLess(time.process_time() - begun, 30)


class Refused(ReasonTests):
    def test_round_then_no_dating(self):
        for whole, error in (
            (telling("a", "over a a"), Round),
            (telling("a", "over a a", [("f", "a", 1, 2), ("g", "a", 3, 4)]), Round),
            (telling("a b c", "over a b,over b a", [("f", "c", 1, 2), ("g", "c", 3, 4)]), Round),
            (telling("a b", "", [("f", "b", 1, 2), ("g", "b", 3, 4)]), NoDating),
            (telling("a b", "after a b 5", frame=(0, 3)), NoDating),
        ):
            for name in whole[1]:
                with self.assertRaises(error) as caught:
                    reasons(whole, name)
                self.assertIs(type(caught.exception), error)

    def test_their_fields(self):
        whole = telling("a b c d e", "over a b,over b c,over c a,over d e,over e d")
        with self.assertRaises(Round) as caught:
            reasons(whole, "a")
        self.assertTrue(helper.is_round(whole, caught.exception.ties))
        self.assertEqual(len(caught.exception.ties), 2)
        whole = telling("a b", "after a b 5", [("f", "a", 0, 9), ("g", "b", 8, 10)])
        with self.assertRaises(NoDating) as caught:
            reasons(whole, "a")
        self.assertEqual(caught.exception.row, ("g", [("after", "a", "b", 5)], "f"))


class ListsAndOwners(unittest.TestCase):
    def whole(self):
        return telling("a b c", "after a b 7,after b c 5", frame=(0, 100))

    def test_what_is_handed_in_stays_as_it_was(self):
        whole = self.whole()
        before = helper.frozen(whole)
        for name in whole[1]:
            reasons(whole, name)
        self.assertEqual(helper.frozen(whole), before)

    def test_what_is_told_is_changed_and_asked_again(self):
        whole = self.whole()
        told = reasons(whole, "b")
        told[0][1].clear()
        told[1][1].append("x")
        self.assertEqual(reasons(whole, "b"), (("", [("after", "b", "c", 5)]), ("", [("after", "a", "b", 7)])))
        self.assertEqual(whole, self.whole())

    def test_the_lists_of_both_chains_are_two(self):
        for whole in (telling("a"), telling("a", "", [("f", "a", 1, 2)])):
            told = reasons(whole, "a")
            told[0][1].append("x")
            self.assertEqual(told[1][1], [])

    def test_nothing_asked_later_changes_what_was_told(self):
        whole = self.whole()
        told = reasons(whole, "b")
        whole[2].clear()
        reasons(whole, "b")
        self.assertEqual(told, (("", [("after", "b", "c", 5)]), ("", [("after", "a", "b", 7)])))


if __name__ == "__main__":
    unittest.main()
