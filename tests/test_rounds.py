"""[12] a shortest round, [13] the order, [3] one of the two; [2] for both and for the field of Round."""

import random
import time
import unittest

from digmatrix.errors import Round
from digmatrix.rounds import order, shortest_round
from tests import helper
from tests.helper import telling


class RoundTests(unittest.TestCase):
    def goes_round(self, whole, size):
        told = shortest_round(whole)
        self.assertTrue(helper.is_round(whole, told), told)
        self.assertEqual(len(told), size)
        with self.assertRaises(Round) as caught:
            order(whole)
        self.assertIs(type(caught.exception), Round)
        self.assertTrue(helper.is_round(whole, caught.exception.ties), caught.exception.ties)
        self.assertEqual(len(caught.exception.ties), size)

    def ordered(self, whole, expected):
        self.assertEqual(shortest_round(whole), [])
        self.assertEqual(order(whole), expected.split())


class Rounds(RoundTests):
    def test_a_unit_above_itself(self):
        for row in ("over a a", "cuts a a", "fills a a", "after a a 0", "after a a 9"):
            whole = telling("a", row)
            self.goes_round(whole, 1)
            self.assertEqual(shortest_round(whole), whole[2])

    def test_between_two_units_that_are_one(self):
        for rows in ("same a b,over a b", "over b a,same a b", "same c a,same b c,after a b 0"):
            self.goes_round(telling("a b c", rows), 1)

    def test_two_ties(self):
        whole = telling("a b", "over a b,over b a")
        self.goes_round(whole, 2)
        self.assertEqual(sorted(shortest_round(whole)), [("over", "a", "b"), ("over", "b", "a")])
        self.goes_round(telling("b a c", "cuts a b,fills b c,after b a 0"), 2)

    def test_ties_told_more_than_once_by_kind_or_gap(self):
        self.goes_round(telling("a b", "over a b,cuts a b,after a b 1,after a b 2,fills b a,over b a"), 2)
        self.ordered(telling("a b", "over a b,cuts a b,fills a b,after a b 1,after a b 2,after a b 0"), "b a")

    def test_a_shorter_one_behind_a_longer_one(self):
        for units in ("a b c d e f g", "g f e d c b a", "d a g c e b f"):
            longer = "over a b,over b c,over c d,over d a"
            self.goes_round(telling(units, longer + ",over e f,over f g,over g e"), 3)
            self.goes_round(telling(units, "over e f,over f g,over g e," + longer), 3)
            self.goes_round(telling(units, longer + ",over c b"), 2)
            self.goes_round(telling(units, longer + ",over d c,over f f"), 1)
            self.goes_round(telling(units, longer + ",over a c"), 3)
            self.goes_round(telling(units, longer + ",over e a,over f e,over b f"), 4)

    def test_through_several_units_of_a_one(self):
        rows = "over a b,over b2 c,over c2 a2,same a a2,same b b2,same c c2"
        whole = telling("a a2 b b2 c c2", rows)
        self.goes_round(whole, 3)
        self.goes_round(telling("a a2 b b2 c c2", rows + ",over b a2"), 2)
        self.goes_round(telling("p q r s", "over p q,over r s,same q r,same s p"), 2)

    def test_same_ties_make_a_long_way_short(self):
        rows = "over a b,over b c,over c d,over d e,over e a"
        self.goes_round(telling("a b c d e", rows), 5)
        self.goes_round(telling("a b c d e", rows + ",same a d"), 2)
        self.goes_round(telling("a b c d e", rows + ",same a b"), 1)

    def test_a_round_beneath_and_one_above_what_is_no_round(self):
        self.goes_round(telling("a b c d", "over a b,over b c,over c d,over d c"), 2)
        self.goes_round(telling("a b c d", "over a b,over b a,over b c,over c d"), 2)

    def test_a_round_of_sixty_ties(self):
        names = [f"u{number}" for number in range(60)]
        ties = [("over", first, second) for first, second in zip(names, names[1:] + names[:1])]
        random.Random(5).shuffle(ties)
        self.goes_round(((0, 9), names, ties, []), 60)

    def test_finds_and_frames_say_nothing_of_it(self):
        finds = [("f", "a", 5, 6), ("g", "b", 50, 60)]
        self.goes_round(telling("a b", "over a b,over b a", finds, (7, 7)), 2)
        self.ordered(telling("a b", "after b a 99", finds, (7, 7)), "a b")

    def test_against_walks_of_every_size(self):
        seen = set()
        for seed in range(600):
            with self.subTest(seed=seed):
                chance = random.Random(seed)
                whole = helper.some_telling(chance, most_units=9, most_ties=12, sames=seed % 3, goes_round=True)
                size = helper.round_size(whole)
                seen.add(size)
                if size is None:
                    self.assertEqual(shortest_round(whole), [])
                    order(whole)
                else:
                    self.goes_round(whole, size)
        self.assertTrue({None, 1, 2, 3} <= seen)

    def test_rounds_of_three_and_more(self):
        sizes = set()
        for seed in range(200):
            with self.subTest(seed=seed):
                chance = random.Random(seed)
                names = [f"u{number}" for number in range(14)]
                ties = [("over", first, second) for first, second in
                        (chance.sample(names, 2) for time in range(18))]
                whole = ((0, 1), names, list(dict.fromkeys(ties)), [])
                size = helper.round_size(whole)
                sizes.add(size)
                if size is not None:
                    self.goes_round(whole, size)
        self.assertTrue({3, 4, 5} <= sizes)


class Orders(RoundTests):
    def test_no_units(self):
        self.ordered(telling(""), "")

    def test_units_without_ties(self):
        self.ordered(telling("a"), "a")
        self.ordered(telling("c b a 9 - 10"), "- 10 9 a b c")

    def test_those_beneath_come_first(self):
        for kind in ("over", "cuts", "fills"):
            self.ordered(telling("a b", kind + " a b"), "b a")
            self.ordered(telling("a b", kind + " b a"), "a b")
        self.ordered(telling("a b", "after a b 0"), "b a")
        self.ordered(telling("a b", "after a b 5"), "b a")

    def test_the_least_name_is_not_beneath(self):
        self.ordered(telling("a b c d", "over a d"), "b c d a")
        self.ordered(telling("a b c d", "over a d,over d b"), "b c d a")
        self.ordered(telling("d c b a", "over a c,over b d"), "c a d b")

    def test_a_name_that_comes_free_goes_ahead_of_greater_ones(self):
        self.ordered(telling("a b c d e", "over a c,over b a"), "c a b d e")
        self.ordered(telling("a b c d e", "over b e"), "a c d e b")

    def test_it_is_not_level_by_level(self):
        self.ordered(telling("a b c d", "over b a,over c b"), "a b c d")
        self.ordered(telling("w x y z", "over x w,over y x,over x z"), "w z x y")

    def test_it_is_not_made_from_above(self):
        # Taken from above, the greatest free name last, a and b would stand elsewhere.
        self.ordered(telling("a b c d", "over a b,over c d"), "b a d c")
        self.ordered(telling("a b c d e", "over e a,over c d"), "a b d c e")

    def test_ones_stand_once_by_their_names(self):
        self.ordered(telling("c b a", "same c a"), "a b")
        self.ordered(telling("a b c d", "same d a,over d b,over b c"), "c b a")
        self.ordered(telling("a b c d", "same d a,over b d,over c a"), "a b c")

    def test_a_unit_the_same_as_itself_goes_not_round(self):
        self.ordered(telling("a b", "same a a,over a b,same b b"), "b a")

    def test_against_the_words(self):
        for seed in range(400):
            with self.subTest(seed=seed):
                whole = helper.some_telling(random.Random(seed), most_units=12, most_ties=14, sames=seed % 2)
                if helper.round_size(whole) is not None:
                    continue
                above = helper.above_pairs(whole)
                left = helper.one_list(whole)
                expected = []
                while left:
                    free = [name for name in left if not any((name, other) in above for other in left)]
                    expected.append(min(free))
                    left.remove(min(free))
                self.assertEqual(order(whole), expected)


class GoodTime(RoundTests):
    def test_sixty_units_and_two_hundred_ties(self):
        begun = time.process_time()
        for seed in range(5):
            whole = helper.great_telling(random.Random(seed), finds=0)
            self.assertEqual(shortest_round(whole), [])
            told = order(whole)
            self.assertEqual(sorted(told), sorted(whole[1]))
            for upper, lower, tie in helper.links(whole):
                self.assertLess(told.index(lower), told.index(upper))
            lowest, highest = told[0], told[-1]
            going = (whole[0], whole[1], whole[2][:-1] + [("over", lowest, highest), ("over", highest, lowest)], [])
            self.goes_round(going, 2)
        self.assertLess(time.process_time() - begun, 20)

    def test_as_many_ways_down_as_ties_can_make(self):
        # Three ties from each level to the next: 3 to the 20th ways, walked one by one, would never end.
        names = [f"u{level:02}-{place}" for level in range(20) for place in range(3)]
        ties = [("over", f"u{level:02}-{first}", f"u{level + 1:02}-{second}")
                for level in range(19) for first in range(3) for second in range(3)]
        whole = ((0, 9), names, ties, [])
        self.assertEqual(shortest_round(whole), [])
        self.assertEqual(order(whole)[:3], ["u19-0", "u19-1", "u19-2"])
        self.goes_round(((0, 9), names, ties + [("over", "u19-1", "u00-2")], []), 20)


class ListsAndOwners(RoundTests):
    def test_kinds(self):
        told = shortest_round(telling("a b", "over a b,after b a 3"))
        self.assertIs(type(told), list)
        self.assertEqual([type(tie) for tie in told], [tuple, tuple])
        self.assertIs(type(shortest_round(telling("a"))), list)
        self.assertIs(type(order(telling("a"))), list)

    def test_what_is_handed_in_stays_as_it_was(self):
        for rows in ("over a b,same b c,over d a", "over a b,over b a,same c d"):
            whole = telling("d c b a", rows, [("f", "a", 1, 2)])
            before = helper.frozen(whole)
            shortest_round(whole)
            try:
                order(whole)
            except Round:
                pass
            self.assertEqual(helper.frozen(whole), before)

    def test_a_round_changed_by_the_asker_and_asked_again(self):
        whole = telling("a", "over a a")
        told = shortest_round(whole)
        told.clear()
        self.assertEqual(shortest_round(whole), [("over", "a", "a")])
        self.assertEqual(whole[2], [("over", "a", "a")])
        empty = telling("a")
        shortest_round(empty).append("x")
        self.assertEqual(shortest_round(empty), [])

    def test_an_order_changed_by_the_asker_and_asked_again(self):
        whole = telling("b a", "over a b")
        order(whole).append("x")
        self.assertEqual(order(whole), ["b", "a"])
        self.assertEqual(whole[1], ["b", "a"])

    def test_the_field_is_the_askers_own(self):
        whole = telling("a", "over a a")
        refusals = []
        for time_asked in range(2):
            with self.assertRaises(Round) as caught:
                order(whole)
            refusals.append(caught.exception)
        refusals[0].ties.clear()
        self.assertEqual(refusals[1].ties, [("over", "a", "a")])
        self.assertEqual(whole[2], [("over", "a", "a")])
        whole[2].clear()
        self.assertEqual(refusals[1].ties, [("over", "a", "a")])

    def test_the_owner_changes_the_telling_behind_the_call(self):
        whole = telling("a b", "over a b")
        told = order(whole)
        whole[2].append(("over", "b", "a"))
        self.assertEqual(told, ["b", "a"])
        self.goes_round(whole, 2)


if __name__ == "__main__":
    unittest.main()
