"""[8] how a tie and a telling are written, [2] that nothing handed in is changed."""

import copy
import unittest

from digmatrix.tellings import show_telling, show_tie

BIG = 10 ** 60 - 1


class Ties(unittest.TestCase):
    def test_each_kind(self):
        self.assertEqual(show_tie(("over", "a", "b")), "over a b")
        self.assertEqual(show_tie(("cuts", "pit", "floor-2")), "cuts pit floor-2")
        self.assertEqual(show_tie(("fills", "b", "a")), "fills b a")
        self.assertEqual(show_tie(("after", "a", "b", 15)), "after a b 15")
        self.assertEqual(show_tie(("same", "z", "a")), "same z a")

    def test_both_names_one_unit(self):
        for kind in ("over", "cuts", "fills", "same"):
            self.assertEqual(show_tie((kind, "a", "a")), kind + " a a")
        self.assertEqual(show_tie(("after", "a", "a", 0)), "after a a 0")

    def test_gaps(self):
        self.assertEqual(show_tie(("after", "a", "b", 0)), "after a b 0")
        self.assertEqual(show_tie(("after", "a", "b", 100)), "after a b 100")
        self.assertEqual(show_tie(("after", "a", "b", BIG)), "after a b " + "9" * 60)


class Tellings(unittest.TestCase):
    def test_a_frame_alone(self):
        self.assertEqual(show_telling(((0, 9999), [], [], [])), "dig 0 9999")
        self.assertEqual(show_telling(((5, 5), [], [], [])), "dig 5 5")
        self.assertEqual(show_telling(((-300, -20), [], [], [])), "dig -300 -20")
        self.assertEqual(show_telling(((-BIG, BIG), [], [], [])), "dig -" + "9" * 60 + " " + "9" * 60)

    def test_units_alone(self):
        self.assertEqual(show_telling(((0, 1), ["b", "a"], [], [])), "dig 0 1\nunit b\nunit a")

    def test_finds_without_ties(self):
        telling = ((0, 9), ["a"], [], [("coin", "a", -3, 0), ("a", "a", 7, 7)])
        self.assertEqual(show_telling(telling), "dig 0 9\nunit a\nfind coin a -3 0\nfind a a 7 7")

    def test_all_in_the_order_of_the_lists(self):
        telling = (
            (-50, 1500),
            ["pit", "fill", "floor", "012"],
            [
                ("same", "floor", "012"),
                ("over", "pit", "floor"),
                ("after", "fill", "pit", 3),
                ("fills", "fill", "pit"),
                ("cuts", "pit", "floor"),
                ("after", "fill", "pit", 0),
            ],
            [("z", "pit", 10, 20), ("b", "012", -5, 5), ("pit", "fill", 0, 0)],
        )
        self.assertEqual(show_telling(telling), "\n".join([
            "dig -50 1500",
            "unit pit",
            "unit fill",
            "unit floor",
            "unit 012",
            "same floor 012",
            "over pit floor",
            "after fill pit 3",
            "fills fill pit",
            "cuts pit floor",
            "after fill pit 0",
            "find z pit 10 20",
            "find b 012 -5 5",
            "find pit fill 0 0",
        ]))

    def test_what_is_handed_in_stays_as_it_was(self):
        telling = ((0, 9), ["b", "a"], [("over", "b", "a"), ("cuts", "a", "a")], [("g", "b", 1, 2), ("f", "a", 0, 3)])
        before = copy.deepcopy(telling)
        first = show_telling(telling)
        self.assertEqual(telling, before)
        self.assertEqual(show_telling(telling), first)
        self.assertEqual(telling, before)

    def test_lists_changed_by_their_owner_are_written_as_they_stand(self):
        units = ["a"]
        ties = []
        finds = []
        telling = ((0, 9), units, ties, finds)
        first = show_telling(telling)
        units.append("b")
        ties.append(("over", "b", "a"))
        finds.append(("f", "a", 1, 2))
        self.assertEqual(first, "dig 0 9\nunit a")
        self.assertEqual(show_telling(telling), "dig 0 9\nunit a\nunit b\nover b a\nfind f a 1 2")


if __name__ == "__main__":
    unittest.main()
