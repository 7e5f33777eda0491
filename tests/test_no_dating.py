"""[20] NoDating and its row, [3] that no row with fewer ties can't be; [2] for its field."""

import random
import time
import unittest

from digmatrix.chains import reasons
from digmatrix.errors import NoDating, Round
from digmatrix.years import dating, is_dating, spans
from tests import helper
from tests.helper import telling

BIG = 10 ** 60 - 1


class RowTests(unittest.TestCase):
    def asked(self, whole):
        """What each of those that need a dating refuses with."""
        name = whole[1][0]
        rows = []
        for ask in (lambda: spans(whole), lambda: dating(whole, name, whole[0][0]), lambda: reasons(whole, name)):
            with self.assertRaises(NoDating) as caught:
                ask()
            self.assertIs(type(caught.exception), NoDating)
            rows.append(caught.exception.row)
        return rows

    def undated(self, whole, size):
        for row in self.asked(whole):
            self.assertTrue(helper.cannot_be(whole, row), row)
            self.assertEqual(len(row[1]), size)

    def told(self, whole, start, rows, end):
        ties = telling("", rows)[2]
        self.undated(whole, len(ties))
        self.assertEqual(self.asked(whole), [(start, ties, end)] * 3)


class Rows(RowTests):
    def test_two_finds_in_one_one(self):
        self.told(telling("a", "", [("f", "a", 1, 2), ("g", "a", 3, 4)]), "g", "", "f")
        self.told(telling("a", "", [("g", "a", 3, 4), ("f", "a", 1, 2)]), "g", "", "f")
        self.told(telling("a b", "same b a", [("f", "a", 1, 2), ("g", "b", 3, 4)]), "g", "", "f")
        self.told(telling("a b c", "same b a,same b c", [("f", "a", 5, 7), ("g", "c", 1, 4)]), "f", "", "g")

    def test_two_finds_that_meet_in_one_year(self):
        whole = telling("a", "", [("f", "a", 1, 3), ("g", "a", 3, 4)])
        self.assertEqual(spans(whole), [("a", 3, 3)])

    def test_a_find_outside_the_frame(self):
        self.told(telling("a", "", [("f", "a", 10, 20)], (0, 9)), "f", "", "")
        self.told(telling("a", "", [("f", "a", -20, -1)], (0, 9)), "", "", "f")
        self.assertEqual(spans(telling("a", "", [("f", "a", 9, 20)], (0, 9))), [("a", 9, 9)])
        self.assertEqual(spans(telling("a", "", [("f", "a", -20, 0)], (0, 9))), [("a", 0, 0)])

    def test_a_chain_of_ties_between_two_finds(self):
        finds = [("f", "a", 0, 9), ("g", "d", 10, 20)]
        self.told(telling("a b c d", "over a b,cuts b c,fills c d", finds), "g", "fills c d,cuts b c,over a b", "f")
        finds = [("f", "a", 0, 12), ("g", "c", 10, 20)]
        self.told(telling("a b c", "after a b 1,after b c 2", finds), "g", "after b c 2,after a b 1", "f")
        self.assertEqual(spans(telling("a b c", "after a b 1,after b c 1", finds))[0], ("a", 12, 12))

    def test_between_the_frames_two_ends(self):
        self.told(telling("a b", "after a b 10", frame=(0, 9)), "", "after a b 10", "")
        self.told(telling("a b c", "after a b 5,after b c 5", frame=(0, 9)), "", "after b c 5,after a b 5", "")
        self.assertEqual(spans(telling("a b", "after a b 9", frame=(0, 9))), [("a", 9, 9), ("b", 0, 0)])
        self.told(telling("a b", "after a b 1", frame=(7, 7)), "", "after a b 1", "")

    def test_between_the_frame_and_a_find(self):
        self.told(telling("a b", "after a b 10", [("f", "a", 0, 9)]), "", "after a b 10", "f")
        self.told(telling("a b", "after a b 10", [("f", "b", 5, 9)], (0, 14)), "f", "after a b 10", "")

    def test_a_row_with_fewer_ties_where_longer_ones_cannot_be_either(self):
        # From g to f by three ties, by two, by one; and two finds in one one.
        three = "after a b 3,after b c 3,after c d 3"
        finds = [("f", "a", 0, 9), ("g", "d", 10, 20)]
        self.undated(telling("a b c d", three, finds), 3)
        self.undated(telling("a b c d", three + ",over a c", finds), 2)
        self.undated(telling("a b c d", three + ",over b d", finds), 2)
        self.told(telling("a b c d", three + ",over a c,over b d,over a d", finds), "g", "over a d", "f")
        more = finds + [("h", "b", 30, 40), ("i", "b", 50, 60)]
        self.told(telling("a b c d", three + ",over a c,over b d,over a d", more), "i", "", "h")

    def test_fewest_ties_not_the_greatest_excess(self):
        rows = "after a b 4000,after b c 4000,over x y"
        finds = [("f", "a", 0, 4500), ("h", "x", 0, 9), ("i", "y", 10, 9999)]
        self.told(telling("a b c x y", rows, finds), "i", "over x y", "h")

    def test_a_weaker_start_nearer_to_the_end(self):
        finds = [("f", "a", 0, 9), ("near", "b", 10, 9999), ("far", "d", 5000, 9999)]
        self.told(telling("a b c d", "over a b,over b c,over c d", finds), "near", "over a b", "f")

    def test_a_weaker_end_nearer_to_the_start(self):
        finds = [("f", "a", 0, 9), ("near", "b", 0, 99), ("g", "c", 100, 9999)]
        self.told(telling("a b c", "over a b,over b c", finds), "g", "over b c", "near")

    def test_a_short_way_that_can_be_beside_a_long_one_that_cannot(self):
        finds = [("f", "a", 0, 19), ("g", "d", 10, 10)]
        rows = "over a d,after a b 5,after b d 5"
        self.told(telling("a b d", rows, finds), "g", "after b d 5,after a b 5", "f")

    def test_through_several_units_of_a_one(self):
        rows = "over a b,same b x,over x c,same c y,over y d"
        finds = [("f", "a", 0, 9), ("g", "d", 10, 20)]
        self.told(telling("a b c d x y", rows, finds), "g", "over y d,over x c,over a b", "f")

    def test_names_of_finds_called_as_units(self):
        finds = [("a", "b", 10, 20), ("b", "a", 0, 9)]
        self.told(telling("a b", "over a b", finds), "a", "over a b", "b")

    def test_years_below_nought_and_of_sixty_figures(self):
        self.told(telling("a b", "over a b", [("f", "a", -9, -5), ("g", "b", -4, -1)], (-10, 0)), "g", "over a b", "f")
        whole = telling("a b c", f"after a b {BIG},after b c {BIG}", frame=(-BIG + 1, BIG))
        self.undated(whole, 2)
        self.assertEqual(spans(telling("a b c", f"after a b {BIG},after b c {BIG}", frame=(-BIG, BIG)))[1], ("b", 0, 0))

    def test_round_goes_ahead(self):
        for whole in (
            telling("a", "after a a 5", [("f", "a", 1, 2), ("g", "a", 3, 4)]),
            telling("a b c", "over a b,over b a", [("f", "c", 1, 2), ("g", "c", 3, 4)]),
        ):
            for ask in (lambda: spans(whole), lambda: dating(whole, "a", 1), lambda: reasons(whole, "a")):
                with self.assertRaises(Round):
                    ask()

    def test_against_every_row_there_is(self):
        sizes = {}
        for seed in range(1500):
            with self.subTest(seed=seed):
                chance = random.Random(seed)
                last = chance.randint(5, 12)
                whole = helper.some_telling(chance, 9, 24, sames=seed % 2, most_finds=seed % 4, frame=(0, last), gap=4)
                if helper.round_size(whole) is not None:
                    continue
                size = helper.fewest_ties_of_a_row(whole)
                sizes[size] = sizes.get(size, 0) + 1
                if size is None:
                    self.assertTrue(is_dating(whole, [(name, low) for name, low, high in spans(whole)]))
                else:
                    self.undated(whole, size)
        self.assertTrue({None, 0, 1, 2, 3} <= set(sizes), sizes)


class GoodTime(RowTests):
    def test_sixty_units_two_hundred_ties_and_a_hundred_finds(self):
        begun = time.process_time()
        for seed in range(4):
            whole = helper.great_telling(random.Random(seed))
            whole[3][-1] = ("tight", whole[2][0][1], 0, 101)
            for row in self.asked(whole):
                self.assertTrue(helper.cannot_be(whole, row), row)
            self.assertEqual(len(self.asked(whole)[0][1]), helper.fewest_ties_of_a_row(whole))
        self.assertLess(time.process_time() - begun, 60)

    def test_a_row_of_fifty_nine_ties(self):
        names = [f"u{number:02}" for number in range(60)]
        ties = [("after", upper, lower, 1) for lower, upper in zip(names, names[1:])]
        random.Random(4).shuffle(ties)
        self.undated(((0, 58), names, ties, []), 59)
        self.assertEqual(spans(((0, 59), names, ties, []))[7], ("u07", 7, 7))

    def test_as_many_ways_down_as_ties_can_make(self):
        names = [f"u{level:02}-{place}" for level in range(20) for place in range(3)]
        ties = [("after", f"u{level:02}-{first}", f"u{level + 1:02}-{second}", first + second)
                for level in range(19) for first in range(3) for second in range(3)]
        self.undated(((0, 75), names, ties, []), 19)


class ListsAndOwners(RowTests):
    def test_kinds(self):
        whole = telling("a b", "after a b 10", frame=(0, 9))
        for row in self.asked(whole):
            self.assertEqual([type(part) for part in row], [str, list, str])
            self.assertEqual([type(tie) for tie in row[1]], [tuple])

    def test_what_is_handed_in_stays_as_it_was(self):
        whole = telling("b a", "after a b 10", [("f", "a", 3, 4)], (0, 9))
        before = helper.frozen(whole)
        self.asked(whole)
        self.assertEqual(helper.frozen(whole), before)

    def test_the_field_is_the_askers_own(self):
        whole = telling("a b", "after a b 10", frame=(0, 9))
        rows = self.asked(whole)
        rows[0][1].clear()
        rows[1][1].append("x")
        self.assertEqual(rows[2], ("", [("after", "a", "b", 10)], ""))
        self.assertEqual(self.asked(whole), [("", [("after", "a", "b", 10)], "")] * 3)
        whole[2].clear()
        self.assertEqual(rows[2], ("", [("after", "a", "b", 10)], ""))

    def test_the_field_without_ties_is_the_askers_own(self):
        whole = telling("a", "", [("f", "a", 1, 2), ("g", "a", 3, 4)])
        rows = self.asked(whole)
        rows[0][1].append("x")
        self.assertEqual(rows[1:] + self.asked(whole), [("g", [], "f")] * 5)


if __name__ == "__main__":
    unittest.main()
