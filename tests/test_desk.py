"""[26] the desk's rows and answers, [27] NoDeed; [2] and [3] for both."""

import random
import unittest

from digmatrix.desk import Desk
from digmatrix.errors import DigError, InUse, NoDating, NoDeed, NoFind, NoTie, NoUnit, NoYear, Round, Twice
from digmatrix.matrix import show_matrix
from digmatrix.rounds import order
from digmatrix.tellings import read_telling, show_telling
from digmatrix.years import is_dating, spans
from tests import helper

NINES = "9" * 60
SOME = (
    "dig 0 1500", "unit well", "unit yard", "unit pit", "cuts well yard", "after well yard 20", "fills pit well",
    "find coin yard 1180 1210", "find shoe pit 1100 1300",
)


def desk_of(*rows):
    desk = Desk()
    for row in rows:
        desk.say(row)
    return desk


class DeskTests(unittest.TestCase):
    def refused(self, desk, error, row):
        before = desk.say("tell")
        with self.subTest(row=row):
            with self.assertRaises(error) as caught:
                desk.say(row)
            self.assertIs(type(caught.exception), error)
            self.assertEqual(desk.say("tell"), before)
        return caught.exception


class Deeds(DeskTests):
    def done(self, desk, row, told):
        self.assertEqual(desk.say(row), "ok")
        self.assertEqual(desk.say("tell"), "\n".join(told))

    def test_the_frame_at_first(self):
        self.assertEqual(Desk().say("tell"), "dig 0 9999")

    def test_a_new_dig(self):
        desk = desk_of("unit a", "same a a", "find f a 1 2")
        self.done(desk, "dig -5 7", ["dig -5 7"])
        self.done(desk, "dig 3 3", ["dig 3 3"])
        self.done(desk, f"dig -{NINES} {NINES}", [f"dig -{NINES} {NINES}"])
        self.done(desk, "unit a", [f"dig -{NINES} {NINES}", "unit a"])

    def test_units(self):
        desk = Desk()
        self.done(desk, "unit b", ["dig 0 9999", "unit b"])
        self.done(desk, "unit a", ["dig 0 9999", "unit b", "unit a"])
        self.done(desk, "drop b", ["dig 0 9999", "unit a"])
        self.done(desk, "unit abcdefgh-012", ["dig 0 9999", "unit a", "unit abcdefgh-012"])

    def test_words_of_rows_may_be_names(self):
        desk = Desk()
        words = "dig unit drop over cuts fills after same untie find move lose order spans date draw tell round".split()
        for word in words:
            self.assertEqual(desk.say("unit " + word), "ok")
        self.assertEqual(desk.say("order"), " ".join(sorted(words)))
        for word in words:
            self.assertEqual(desk.say(f"same {word} {word}"), "ok")
            self.assertEqual(desk.say(f"untie same {word} {word}"), "ok")
            self.assertEqual(desk.say(f"find {word} {word} 1 2"), "ok")

    def test_ties(self):
        head = ["dig 0 9999", "unit a", "unit b"]
        rows = ["over a b", "cuts a b", "fills b a", "after a b 0", f"after a b {NINES}", "same a b", "same a a"]
        desk = desk_of("unit a", "unit b")
        for count in range(len(rows)):
            self.done(desk, rows[count], head + rows[:count + 1])
        for count in range(len(rows)):
            self.done(desk, "untie " + rows[count], head + rows[count + 1:])

    def test_finds(self):
        head = ["dig 0 9999", "unit a", "unit b"]
        desk = desk_of("unit a", "unit b")
        self.done(desk, "find f a -5 7", head + ["find f a -5 7"])
        self.done(desk, "find a b 3 3", head + ["find f a -5 7", "find a b 3 3"])
        self.done(desk, "move f b", head + ["find f b -5 7", "find a b 3 3"])
        self.done(desk, "move f a", head + ["find f a -5 7", "find a b 3 3"])
        self.done(desk, "lose f", head + ["find a b 3 3"])
        self.done(desk, "lose a", head)

    def test_two_desks_are_two(self):
        first, second = Desk(), Desk()
        first.say("unit a")
        first.say("dig 1 2")
        self.assertEqual(second.say("tell"), "dig 0 9999")


class Answers(DeskTests):
    def test_empty_lists(self):
        desk = Desk()
        for row in ("order", "spans", "draw"):
            self.assertEqual(desk.say(row), "")
        self.assertEqual(desk.say("round"), "none")

    def test_order(self):
        desk = desk_of(*SOME)
        self.assertEqual(desk.say("order"), "yard well pit")
        self.assertEqual(desk_of("unit b", "unit a", "unit c", "same c a").say("order"), "a b")

    def test_spans(self):
        self.assertEqual(desk_of(*SOME).say("spans"), "pit:1200..1300 well:1200..1300 yard:1180..1210")
        self.assertEqual(desk_of("dig -7 -3", "unit a").say("spans"), "a:-7..-3")
        self.assertEqual(desk_of(f"dig -{NINES} {NINES}", "unit a").say("spans"), f"a:-{NINES}..{NINES}")

    def test_date(self):
        self.assertEqual(desk_of("dig -7 -3", "unit a").say("date a -5"), "a:-5")
        self.assertEqual(desk_of("dig 4 4", "unit b", "unit a", "over a b").say("date b 4"), "a:4 b:4")
        desk = desk_of(*SOME)
        telling = read_telling(desk.say("tell"))
        for row, name, year in (("date well 1250", "well", 1250), ("date yard 1210", "yard", 1210),
                                ("date pit 1200", "pit", 1200), ("date pit 1300", "pit", 1300)):
            words = [word.split(":") for word in desk.say(row).split(" ")]
            pairs = [(word[0], int(word[1])) for word in words]
            self.assertTrue(is_dating(telling, pairs))
            self.assertEqual(dict(pairs)[name], year)

    def test_date_of_a_unit_that_is_not_called_as_its_one(self):
        desk = desk_of("dig 0 9", "unit b", "unit a", "same a b")
        self.assertEqual(desk.say("date b 5"), "a:5")

    def test_draw(self):
        self.assertEqual(desk_of(*SOME).say("draw"), "2: pit\n1: well\n0: yard\npit > well\nwell > yard")
        self.assertEqual(desk_of("unit b", "unit a").say("draw"), "0: a b")

    def test_tell(self):
        self.assertEqual(desk_of(*SOME).say("tell"), "\n".join(SOME))

    def test_round(self):
        desk = desk_of("unit a", "unit b")
        self.assertEqual(desk.say("round"), "none")
        desk.say("after a b 5")
        self.assertEqual(desk.say("round"), "none")
        desk.say("cuts b a")
        self.assertIn(desk.say("round"), ("after a b 5; cuts b a", "cuts b a; after a b 5"))
        desk.say("over b b")
        self.assertEqual(desk.say("round"), "over b b")
        desk.say("untie over b b")
        desk.say("untie cuts b a")
        self.assertEqual(desk.say("round"), "none")

    def test_asking_changes_nothing(self):
        desk = desk_of(*SOME)
        for row in ("order", "spans", "date pit 1250", "draw", "round", "tell"):
            first = desk.say(row)
            self.assertEqual(desk.say(row), first)
            self.assertEqual(desk.say("tell"), "\n".join(SOME))


class NoDeeds(DeskTests):
    rows = ("dig 0 9", "unit c", "drop c", "over a b", "cuts a b", "fills a b", "after a b 3", "same a b", "untie same b a",
            "untie after b a 1", "find g a 1 2", "move f b", "lose f", "order", "spans", "date a 5", "draw", "tell", "round")

    def desk(self):
        return desk_of("unit a", "unit b", "unit c", "same b a", "after b a 1", "find f a 1 9", "drop c")

    def wrong(self, *rows):
        desk = self.desk()
        for row in rows:
            self.refused(desk, NoDeed, row)

    def test_the_rows_are_right_as_they_stand(self):
        for row in self.rows:
            desk = desk_of("unit a", "unit b", "same b a", "after b a 1", "find f a 1 9")
            if row == "drop c":
                desk.say("unit c")
            try:
                desk.say(row)
            except Round:
                self.assertIn(row, ("order", "spans", "date a 5", "draw"))

    def test_what_is_no_text(self):
        self.wrong(None, 0, 7, True, [], ["tell"], ("unit", "x"), {}, b"tell")

    def test_no_words(self):
        self.wrong("", " ", "  ", "\n")

    def test_blanks_ahead_at_the_end_and_doubled(self):
        for row in self.rows:
            self.wrong(" " + row, row + " ", "  " + row, row + "  ")
            if " " in row:
                self.wrong(row.replace(" ", "  ", 1), row[::-1].replace(" ", "  ", 1)[::-1], row.replace(" ", "\n", 1))
            self.wrong(row + "\n", "\n" + row, row + "\n" + row)

    def test_words_too_few_or_too_many(self):
        for row in self.rows:
            self.wrong(row + " x", row + " 1", row + " a b", row + " ;")
            words = row.split(" ")
            for count in range(1, len(words)):
                self.wrong(" ".join(words[:count]))

    def test_first_words_that_are_none(self):
        self.wrong("x", "Tell", "TELL", "telling", "units", "unit,c", "add c", "; tell", ";", "under a b", "undo", "none",
                   "ok", "find-g-a-1-2", "rounds", "dating a 5", "level", "walk a b", "show")

    def test_untie_and_what_is_no_tie(self):
        self.wrong("untie", "untie ", "untie a b", "untie unit a", "untie find f a 1 9", "untie dig 0 9", "untie untie same b a",
                   "untie tell", "untie order", "untie drop a", "untie lose f", "untie move f b", "untie date a 5",
                   "untie  same b a", "untie same b  a", "untie after b a", "untie same b a 1", "untie after b a -1",
                   "untie after b a x", "untie over A b", "untie over a B")

    def test_a_word_that_is_no_name(self):
        for name in ("A", "abcdefghijklm", "a_b", "a.", ",", ";", "a\n"):
            self.wrong("unit " + name, "drop " + name, "lose " + name, f"move {name} a", f"move f {name}",
                       f"find {name} a 1 2", f"find g {name} 1 2", f"date {name} 5")
            for kind in ("over", "cuts", "fills", "same"):
                self.wrong(f"{kind} {name} a", f"{kind} a {name}", f"untie {kind} {name} a", f"untie {kind} a {name}")
            self.wrong(f"after {name} a 1", f"after a {name} 1")

    def test_a_word_that_is_no_number(self):
        for number in ("x", "-", "-0", "00", "01", "+1", "1.", "1e3", "-01", "1" + "0" * 60, "1_0", "--1", "1\n"):
            self.wrong(f"dig {number} 9", f"dig 0 {number}", f"after a b {number}", f"untie after b a {number}",
                       f"find g a {number} 9", f"find g a 0 {number}", f"date a {number}")

    def test_a_gap_below_nought(self):
        self.wrong("after a b -1", "after a a -5", "untie after a b -1", f"after a b -{NINES}")

    def test_years_the_wrong_way_round(self):
        self.wrong("dig 1 0", "dig 0 -1", "dig -1 -2", f"dig {NINES} 0", "find g a 1 0", "find g a -1 -2", "find g b 10 9")

    def test_it_goes_ahead_of_what_the_dig_refuses(self):
        self.wrong("find f a 2 1", "find f x 2 1", "find g x 2 1", "find f a x 1", "after x y -1", "over x Y", "move i X",
                   "date x y", "untie after x y -1", "unit a b", "drop x y", "lose i j")


class AsTheDigRefuses(DeskTests):
    def test_each(self):
        desk = desk_of("unit a", "unit b", "over a b", "after a b 1", "find f a 1 9")
        for row, error in (
            ("unit a", Twice), ("drop x", NoUnit), ("drop f", NoUnit), ("drop a", InUse), ("drop b", InUse),
            ("over a x", NoUnit), ("over x a", NoUnit), ("same x x", NoUnit), ("after a x 3", NoUnit), ("over a b", Twice),
            ("after a b 1", Twice), ("untie over b a", NoTie), ("untie cuts a b", NoTie), ("untie after a b 2", NoTie),
            ("untie over x y", NoTie), ("find f b 3 4", Twice), ("find f x 3 4", Twice), ("find g x 3 4", NoUnit),
            ("move g a", NoFind), ("move g x", NoFind), ("move f x", NoUnit), ("lose g", NoFind), ("lose a", NoFind),
            ("date x 5", NoUnit), ("date f 5", NoUnit), ("date a 10", NoYear), ("date b 9", NoYear), ("date a 0", NoYear),
        ):
            self.refused(desk, error, row)
        self.refused(Desk(), NoUnit, "date a 5")

    def test_round(self):
        desk = desk_of("unit a", "unit b", "unit c", "over a b", "over b c", "over c a", "after b a 1")
        for row in ("order", "spans", "draw", "date a 5", "date a 10000"):
            refusal = self.refused(desk, Round, row)
            self.assertTrue(helper.is_round(read_telling(desk.say("tell")), refusal.ties))
            self.assertEqual(len(refusal.ties), 2)

    def test_no_dating(self):
        desk = desk_of("unit a", "unit b", "over a b", "find f a 1 5", "find g b 6 9")
        for row in ("spans", "date a 3", "date b 99999"):
            self.assertEqual(self.refused(desk, NoDating, row).row, ("g", [("over", "a", "b")], "f"))
        self.assertEqual(desk.say("order"), "b a")
        self.assertEqual(desk.say("draw"), "1: a\n0: b\na > b")
        self.assertEqual(desk.say("round"), "none")

    def test_date_of_a_unit_that_is_not_there_goes_ahead(self):
        self.refused(desk_of("unit a", "over a a"), NoUnit, "date x 5")
        self.refused(desk_of("unit a", "find f a 1 2", "find g a 3 4"), NoUnit, "date x 5")
        self.refused(desk_of("unit a", "over a a", "find f a 1 2", "find g a 3 4"), Round, "date a 5")
        self.refused(desk_of("unit a", "find f a 1 2", "find g a 3 4"), NoDating, "date a 99999")

    def test_a_refusal_changed_by_the_asker(self):
        desk = desk_of("unit a", "over a a")
        self.refused(desk, Round, "order").ties.clear()
        self.assertEqual(self.refused(desk, Round, "order").ties, [("over", "a", "a")])
        self.assertEqual(desk.say("round"), "over a a")


def some_row(chance):
    name, other = chance.choice("abcdef"), chance.choice("abcdef")
    find = chance.choice("xyz")
    tie = f"{chance.choice(('over', 'cuts', 'fills', 'same'))} {name} {other}"
    if chance.random() < 0.3:
        tie = f"after {name} {other} {chance.randint(0, 3)}"
    low = chance.randint(0, 20)
    return chance.choice([
        "unit " + name, "unit " + name, "drop " + name, tie, tie, "untie " + tie, f"find {find} {name} {low} {low + 9}",
        f"move {find} {name}", "lose " + find, "dig 0 30" if chance.random() < 0.05 else "tell", "order", "spans",
        f"date {name} {low}", "draw", "round", "unit A", tie + " ", "find x",
    ])


def said(desk, row):
    try:
        return desk.say(row)
    except DigError as refusal:
        return (type(refusal), vars(refusal))


class AfterManyDeeds(unittest.TestCase):
    asked = ("tell", "order", "spans", "draw", "round") + tuple(f"date {name} {year}" for name in "abcdef" for year in (3, 12))

    def test_as_a_new_desk_that_was_told_only_what_stands(self):
        for seed in range(40):
            with self.subTest(seed=seed):
                chance = random.Random(seed)
                desk = Desk()
                for number in range(150):
                    before = desk.say("tell")
                    row = some_row(chance)
                    if said(desk, row) != "ok":
                        self.assertEqual(desk.say("tell"), before)
                    if number % 30 == 29:
                        anew = desk_of(*desk.say("tell").split("\n"))
                        for question in self.asked:
                            self.assertEqual(said(desk, question), said(anew, question))

    def test_answers_are_those_of_the_program(self):
        for seed in range(60):
            whole = helper.some_telling(random.Random(seed), sames=seed % 2, most_finds=2)
            desk = desk_of(*show_telling(whole).split("\n"))
            self.assertEqual(desk.say("tell"), show_telling(whole))
            try:
                told = spans(whole)
            except DigError as refusal:
                self.assertEqual(said(desk, "spans"), (type(refusal), vars(refusal)))
                continue
            self.assertEqual(desk.say("spans"), " ".join(f"{name}:{low}..{high}" for name, low, high in told))
            self.assertEqual(desk.say("order"), " ".join(order(whole)))
            self.assertEqual(desk.say("draw"), show_matrix(whole))


if __name__ == "__main__":
    unittest.main()
