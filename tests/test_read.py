"""[9] how a telling is read, [4] to [7] what it then is, [2] that its lists are the asker's own."""

import random
import unittest

from digmatrix.tellings import read_telling, show_telling

KINDS = ("over", "cuts", "fills", "after", "same")


def lines(*rows):
    return "\n".join(rows)


class WhatIsRead(unittest.TestCase):
    def test_a_frame_alone(self):
        self.assertEqual(read_telling("dig 0 9999"), ((0, 9999), [], [], []))
        self.assertEqual(read_telling("dig 7 7"), ((7, 7), [], [], []))
        self.assertEqual(read_telling("dig -20 -3"), ((-20, -3), [], [], []))
        self.assertEqual(read_telling("dig -1 0"), ((-1, 0), [], [], []))

    def test_a_whole_telling(self):
        text = lines(
            "dig -50 1500", "unit pit", "unit fill", "unit floor", "over pit floor", "cuts pit floor",
            "fills fill pit", "after fill pit 3", "same floor floor", "find coin fill 1180 1210", "find pit floor -5 -5",
        )
        self.assertEqual(read_telling(text), (
            (-50, 1500),
            ["pit", "fill", "floor"],
            [
                ("over", "pit", "floor"),
                ("cuts", "pit", "floor"),
                ("fills", "fill", "pit"),
                ("after", "fill", "pit", 3),
                ("same", "floor", "floor"),
            ],
            [("coin", "fill", 1180, 1210), ("pit", "floor", -5, -5)],
        ))

    def test_the_kinds_of_what_is_read(self):
        telling = read_telling(lines("dig 0 1", "unit a", "after a a 1", "over a a", "find f a 0 1"))
        self.assertIs(type(telling), tuple)
        self.assertEqual([type(part) for part in telling], [tuple, list, list, list])
        frame, units, ties, finds = telling
        self.assertEqual([type(year) for year in frame], [int, int])
        self.assertEqual([type(unit) for unit in units], [str])
        self.assertEqual([type(tie) for tie in ties], [tuple, tuple])
        self.assertIs(type(ties[0][3]), int)
        self.assertEqual(len(ties[1]), 3)
        self.assertIs(type(finds[0]), tuple)
        self.assertEqual([type(part) for part in finds[0]], [str, str, int, int])

    def test_names_at_their_edges(self):
        text = lines("dig 0 1", "unit a", "unit abcdefgh-012", "unit -", "unit 0", "over abcdefgh-012 -",
                     "find 012345678901 0 0 0")
        self.assertEqual(read_telling(text), (
            (0, 1), ["a", "abcdefgh-012", "-", "0"], [("over", "abcdefgh-012", "-")], [("012345678901", "0", 0, 0)],
        ))

    def test_numbers_of_sixty_figures(self):
        nines = "9" * 60
        big = int(nines)
        text = lines(f"dig -{nines} {nines}", "unit a", f"after a a {nines}", f"find f a -{nines} {nines}")
        self.assertEqual(read_telling(text), ((-big, big), ["a"], [("after", "a", "a", big)], [("f", "a", -big, big)]))

    def test_a_gap_of_nought(self):
        self.assertEqual(read_telling(lines("dig 0 1", "unit a", "after a a 0"))[2], [("after", "a", "a", 0)])

    def test_bounds_need_not_lie_in_the_frame(self):
        self.assertEqual(read_telling(lines("dig 0 1", "unit a", "find f a 50 60"))[3], [("f", "a", 50, 60)])

    def test_words_of_the_lines_may_be_names(self):
        words = ["dig", "unit", "find"] + list(KINDS)
        rows = ["dig 0 1"] + ["unit " + word for word in words]
        rows += [f"over {word} {word}" for word in words] + [f"find {word} {word} 0 1" for word in words]
        told = read_telling(lines(*rows))
        self.assertEqual(told[1], words)
        self.assertEqual(told[2], [("over", word, word) for word in words])
        self.assertEqual(told[3], [(word, word, 0, 1) for word in words])

    def test_ties_that_are_not_the_same(self):
        rows = ["over a b", "over b a", "over a a", "over b b", "cuts a b", "fills a b", "same a b", "same b a",
                "after a b 0", "after a b 1", "after b a 1", "after a b 10"]
        told = read_telling(lines("dig 0 1", "unit a", "unit b", *rows))
        self.assertEqual([" ".join(str(word) for word in tie) for tie in told[2]], rows)

    def test_finds_that_are_alike_but_for_the_name(self):
        told = read_telling(lines("dig 0 1", "unit a", "find f a 0 1", "find g a 0 1"))
        self.assertEqual(told[3], [("f", "a", 0, 1), ("g", "a", 0, 1)])

    def test_a_find_may_be_called_as_a_unit(self):
        told = read_telling(lines("dig 0 1", "unit a", "find a a 0 1", "find b a 0 1", "unit b", "over a b"))
        self.assertEqual(told, ((0, 1), ["a", "b"], [("over", "a", "b")], [("a", "a", 0, 1), ("b", "a", 0, 1)]))


class HowItIsWritten(unittest.TestCase):
    plain = ((0, 9), ["b", "a", "c"], [("over", "b", "a"), ("after", "c", "b", 2)], [("g", "a", 1, 2), ("f", "b", 3, 4)])

    def test_lines_in_any_order(self):
        text = lines("dig 0 9", "unit b", "unit a", "find g a 1 2", "over b a", "unit c", "find f b 3 4", "after c b 2")
        self.assertEqual(read_telling(text), self.plain)

    def test_each_list_has_its_lines_order(self):
        text = lines("dig 0 9", "unit c", "unit a", "find z c 0 0", "unit b", "same c b", "over c a", "find y a 0 0",
                     "cuts a b", "find x b 0 0")
        self.assertEqual(read_telling(text), (
            (0, 9), ["c", "a", "b"], [("same", "c", "b"), ("over", "c", "a"), ("cuts", "a", "b")],
            [("z", "c", 0, 0), ("y", "a", 0, 0), ("x", "b", 0, 0)],
        ))

    def test_more_blanks(self):
        text = lines("   dig  0   9 ", "unit b", " unit a", "unit  c   ", "over b    a", "     after c  b 2",
                     "find g   a 1 2      ", "  find  f  b  3  4  ")
        self.assertEqual(read_telling(text), self.plain)

    def test_lines_that_are_passed_over(self):
        text = lines("", "; a remark", ";dig 1 2", "   ", "dig 0 9", "  ;unit x", "unit b", "; unit a", "unit a", "unit c",
                     ";", "over b a", "", "after c b 2", ";;", ";over b a", "find g a 1 2", "   ; find g a 1 2",
                     "find f b 3 4", "", ";")
        self.assertEqual(read_telling(text), self.plain)

    def test_a_line_feed_at_the_end(self):
        self.assertEqual(read_telling("dig 0 9\nunit a\n"), ((0, 9), ["a"], [], []))
        self.assertEqual(read_telling("dig 0 9\n\n\n"), ((0, 9), [], [], []))
        self.assertEqual(read_telling("\n\ndig 0 9"), ((0, 9), [], [], []))

    def test_signs_of_all_sorts_behind_a_semicolon(self):
        remark = "".join(chr(code) for code in range(32, 127) if chr(code) != "%")
        self.assertEqual(read_telling(lines(";" + remark, "dig 0 9", "; " + remark)), ((0, 9), [], [], []))


def some_telling(chance):
    signs = "abcdefghijklmnopqrstuvwxyz0123456789-"
    units = []
    for count in range(chance.randint(0, 12)):
        name = "".join(chance.choice(signs) for place in range(chance.randint(1, 12)))
        if name not in units:
            units.append(name)
    ties = []
    finds = []
    if units:
        for count in range(chance.randint(0, 20)):
            tie = (chance.choice(KINDS), chance.choice(units), chance.choice(units))
            if tie[0] == "after":
                tie += (chance.choice([0, 1, chance.randint(0, 10 ** 60 - 1)]),)
            if tie not in ties:
                ties.append(tie)
        for count in range(chance.randint(0, 10)):
            years = sorted(chance.randint(-2000, 2000) for year in range(2))
            finds.append((f"f-{count}", chance.choice(units), years[0], years[1]))
        chance.shuffle(finds)
    frame = tuple(sorted(chance.randint(-10 ** 6, 10 ** 6) for year in range(2)))
    return (frame, units, ties, finds)


def with_blanks_and_remarks(text, chance):
    rows = []
    for row in text.split("\n"):
        for count in range(chance.randint(0, 2)):
            rows.append(chance.choice(["", "  ", ";", "; dig 0 1", " ;unit x", ";unit"]))
        words = row.split(" ")
        loose = words[0]
        for word in words[1:]:
            loose += " " * chance.randint(1, 3) + word
        rows.append(" " * chance.randint(0, 2) + loose + " " * chance.randint(0, 2))
    return "\n".join(rows)


class WrittenAndReadAgain(unittest.TestCase):
    def test_tellings_of_all_sorts(self):
        for seed in range(200):
            with self.subTest(seed=seed):
                chance = random.Random(seed)
                telling = some_telling(chance)
                text = show_telling(telling)
                self.assertEqual(read_telling(text), telling)
                self.assertEqual(show_telling(read_telling(text)), text)
                self.assertEqual(read_telling(with_blanks_and_remarks(text, chance)), telling)

    def test_as_many_as_there_may_be_and_somewhat_more(self):
        for units, ties, finds in ((60, 200, 100), (66, 220, 110)):
            names = [f"u{number}" for number in range(units)]
            told_ties = [("after", names[number % units], names[(number * 7 + 1) % units], number)
                         for number in range(ties)]
            told_finds = [(f"f{number}", names[number % units], -number, number) for number in range(finds)]
            telling = ((-5, 5), names, told_ties, told_finds)
            self.assertEqual(read_telling(show_telling(telling)), telling)

    def test_a_text_of_ten_thousand_signs_and_somewhat_more(self):
        for length in (10000, 10500):
            text = "dig 0 9\nunit a\n;"
            text += " " * (length - len(text))
            self.assertEqual(read_telling(text), ((0, 9), ["a"], [], []))


class ListsOfTheAskersOwn(unittest.TestCase):
    text = lines("dig 0 9", "unit a", "unit b", "over a b", "find f a 1 2")

    def expected(self):
        return ((0, 9), ["a", "b"], [("over", "a", "b")], [("f", "a", 1, 2)])

    def test_what_was_told_is_changed_and_asked_again(self):
        told = read_telling(self.text)
        told[1].append("c")
        told[2].clear()
        told[3].reverse()
        told[3].append(("g", "a", 1, 2))
        self.assertEqual(read_telling(self.text), self.expected())

    def test_nothing_asked_later_changes_it(self):
        told = read_telling(self.text)
        read_telling(lines("dig 3 4", "unit c", "over c c", "find h c 3 3"))
        show_telling(told)
        self.assertEqual(told, self.expected())

    def test_nothing_refused_later_changes_it(self):
        told = read_telling(self.text)
        with self.assertRaises(ValueError):
            read_telling(self.text + "\nunit c\nover c x")
        self.assertEqual(told, self.expected())
        self.assertEqual(read_telling(self.text), self.expected())

    def test_its_three_lists_are_three(self):
        told = read_telling("dig 0 9")
        told[1].append("a")
        self.assertEqual(told, ((0, 9), ["a"], [], []))
        told[2].append(("over", "a", "a"))
        self.assertEqual(told, ((0, 9), ["a"], [("over", "a", "a")], []))


if __name__ == "__main__":
    unittest.main()
