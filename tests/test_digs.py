"""[23] a dig that changes, with each refusal of the interface; [2] and [3] for it."""

import random
import unittest

from digmatrix.digs import Dig
from digmatrix.drawn import drawn
from digmatrix.errors import DigError, InUse, NoFind, NoTie, NoUnit, Twice
from digmatrix.levels import levels
from digmatrix.rounds import shortest_round
from digmatrix.years import spans

KINDS = ("over", "cuts", "fills", "same")


def some_dig():
    dig = Dig(0, 100)
    for name in ("c", "a", "b"):
        dig.add_unit(name)
    dig.add_tie(("over", "c", "a"))
    dig.add_tie(("after", "b", "a", 3))
    dig.add_find("g", "a", 5, 9)
    dig.add_find("f", "b", 1, 20)
    dig.add_find("h", "a", 5, 8)
    return dig


SOME = ((0, 100), ["c", "a", "b"], [("over", "c", "a"), ("after", "b", "a", 3)],
        [("g", "a", 5, 9), ("f", "b", 1, 20), ("h", "a", 5, 8)])


class DigTests(unittest.TestCase):
    def refused(self, dig, error, act):
        before = repr(dig.telling())
        with self.assertRaises(error) as caught:
            act()
        self.assertIs(type(caught.exception), error)
        self.assertEqual(repr(dig.telling()), before)


class Told(DigTests):
    def test_at_first_its_frame_alone(self):
        self.assertEqual(Dig(0, 9999).telling(), ((0, 9999), [], [], []))
        self.assertEqual(Dig(-5, -5).telling(), ((-5, -5), [], [], []))
        big = 10 ** 60 - 1
        self.assertEqual(Dig(-big, big).telling(), ((-big, big), [], [], []))

    def test_put_behind_the_others(self):
        self.assertEqual(some_dig().telling(), SOME)

    def test_each_kind_of_tie(self):
        dig = Dig(0, 9)
        dig.add_unit("a")
        dig.add_unit("b")
        ties = [(kind, first, second) for kind in KINDS for first in "ab" for second in "ab"]
        ties += [("after", "a", "b", 0), ("after", "a", "b", 1), ("after", "b", "a", 1), ("after", "a", "a", 1)]
        for tie in ties:
            dig.add_tie(tie)
        self.assertEqual(dig.telling()[2], ties)
        for tie in ties[::2]:
            dig.drop_tie(tie)
        self.assertEqual(dig.telling()[2], ties[1::2])

    def test_taken_out_and_put_again(self):
        dig = some_dig()
        dig.drop_tie(("over", "c", "a"))
        self.assertEqual(dig.telling()[2], [("after", "b", "a", 3)])
        dig.drop_unit("c")
        self.assertEqual(dig.telling()[1], ["a", "b"])
        dig.add_unit("c")
        dig.add_tie(("over", "c", "a"))
        self.assertEqual(dig.telling()[1:3], (["a", "b", "c"], [("after", "b", "a", 3), ("over", "c", "a")]))
        dig.drop_find("g")
        self.assertEqual(dig.telling()[3], [("f", "b", 1, 20), ("h", "a", 5, 8)])
        dig.add_find("g", "b", 2, 3)
        self.assertEqual(dig.telling()[3], [("f", "b", 1, 20), ("h", "a", 5, 8), ("g", "b", 2, 3)])

    def test_a_find_that_is_moved_keeps_its_place(self):
        for name, place in (("g", 0), ("f", 1), ("h", 2)):
            dig = some_dig()
            dig.move_find(name, "c")
            expected = list(SOME[3])
            expected[place] = (name, "c") + expected[place][2:]
            self.assertEqual(dig.telling(), SOME[:3] + (expected,))

    def test_a_find_moved_to_where_it_is(self):
        dig = some_dig()
        dig.move_find("f", "b")
        self.assertEqual(dig.telling(), SOME)

    def test_a_find_called_as_a_unit(self):
        dig = Dig(0, 9)
        dig.add_unit("a")
        dig.add_find("a", "a", 1, 2)
        dig.add_find("b", "a", 1, 2)
        dig.add_unit("b")
        dig.move_find("a", "b")
        self.assertEqual(dig.telling(), ((0, 9), ["a", "b"], [], [("a", "b", 1, 2), ("b", "a", 1, 2)]))

    def test_everything_taken_back(self):
        dig = some_dig()
        for name in ("f", "g", "h"):
            dig.drop_find(name)
        for tie in SOME[2]:
            dig.drop_tie(tie)
        for name in ("a", "b", "c"):
            dig.drop_unit(name)
        self.assertEqual(dig.telling(), ((0, 100), [], [], []))

    def test_what_methods_give_back(self):
        dig = Dig(0, 9)
        dig.add_unit("a")
        self.assertEqual([type(part) for part in dig.telling()], [tuple, list, list, list])


class Refused(DigTests):
    def test_add_unit(self):
        dig = some_dig()
        for name in ("a", "b", "c"):
            self.refused(dig, Twice, lambda: dig.add_unit(name))
        dig.add_unit("f")
        self.refused(dig, Twice, lambda: dig.add_unit("f"))

    def test_drop_unit(self):
        dig = some_dig()
        self.refused(dig, NoUnit, lambda: dig.drop_unit("x"))
        self.refused(dig, NoUnit, lambda: dig.drop_unit("f"))
        for name in ("a", "b", "c"):
            self.refused(dig, InUse, lambda: dig.drop_unit(name))

    def test_a_unit_in_use_by_a_tie(self):
        for tie in [(kind, first, second) for kind in KINDS for first, second in ("ab", "ba", "aa")] + [
                ("after", "a", "b", 0), ("after", "b", "a", 5), ("after", "a", "a", 5)]:
            dig = Dig(0, 9)
            dig.add_unit("a")
            dig.add_unit("b")
            dig.add_tie(tie)
            self.refused(dig, InUse, lambda: dig.drop_unit("a"))
            dig.drop_tie(tie)
            dig.drop_unit("a")
            self.assertEqual(dig.telling()[1], ["b"])

    def test_a_unit_that_another_tie_names_not(self):
        dig = Dig(0, 9)
        for name in ("a", "b", "over"):
            dig.add_unit(name)
        dig.add_tie(("over", "a", "a"))
        dig.add_find("b", "a", 1, 2)
        dig.drop_unit("b")
        dig.drop_unit("over")
        self.assertEqual(dig.telling()[1], ["a"])

    def test_a_unit_in_use_by_a_find(self):
        dig = Dig(0, 9)
        dig.add_unit("a")
        dig.add_unit("b")
        dig.add_find("f", "a", 1, 2)
        self.refused(dig, InUse, lambda: dig.drop_unit("a"))
        dig.move_find("f", "b")
        self.refused(dig, InUse, lambda: dig.drop_unit("b"))
        dig.drop_unit("a")
        dig.drop_find("f")
        dig.drop_unit("b")
        self.assertEqual(dig.telling(), ((0, 9), [], [], []))

    def test_add_tie(self):
        dig = some_dig()
        for kind in KINDS:
            for first, second in (("x", "a"), ("a", "x"), ("x", "x"), ("x", "y"), ("f", "a")):
                self.refused(dig, NoUnit, lambda: dig.add_tie((kind, first, second)))
        self.refused(dig, NoUnit, lambda: dig.add_tie(("after", "x", "a", 3)))
        self.refused(dig, NoUnit, lambda: dig.add_tie(("after", "a", "x", 3)))
        self.refused(dig, Twice, lambda: dig.add_tie(("over", "c", "a")))
        self.refused(dig, Twice, lambda: dig.add_tie(("after", "b", "a", 3)))
        for tie in (("over", "a", "c"), ("cuts", "c", "a"), ("after", "b", "a", 4), ("after", "a", "b", 3)):
            dig.add_tie(tie)
            self.refused(dig, Twice, lambda: dig.add_tie(tie))

    def test_drop_tie(self):
        dig = some_dig()
        for tie in (("over", "a", "c"), ("cuts", "c", "a"), ("after", "b", "a", 4), ("after", "a", "b", 3),
                    ("same", "a", "a"), ("over", "x", "y"), ("over", "b", "a")):
            self.refused(dig, NoTie, lambda: dig.drop_tie(tie))
        dig.drop_tie(("over", "c", "a"))
        self.refused(dig, NoTie, lambda: dig.drop_tie(("over", "c", "a")))

    def test_add_find(self):
        dig = some_dig()
        self.refused(dig, Twice, lambda: dig.add_find("f", "b", 1, 20))
        self.refused(dig, Twice, lambda: dig.add_find("f", "a", 3, 4))
        self.refused(dig, NoUnit, lambda: dig.add_find("i", "x", 3, 4))
        self.refused(dig, NoUnit, lambda: dig.add_find("i", "f", 3, 4))

    def test_move_find(self):
        dig = some_dig()
        self.refused(dig, NoFind, lambda: dig.move_find("i", "a"))
        self.refused(dig, NoFind, lambda: dig.move_find("a", "a"))
        self.refused(dig, NoUnit, lambda: dig.move_find("f", "x"))
        self.refused(dig, NoUnit, lambda: dig.move_find("f", "f"))

    def test_drop_find(self):
        dig = some_dig()
        self.refused(dig, NoFind, lambda: dig.drop_find("i"))
        self.refused(dig, NoFind, lambda: dig.drop_find("a"))
        dig.drop_find("f")
        self.refused(dig, NoFind, lambda: dig.drop_find("f"))

    def test_two_refusals_due_at_once(self):
        dig = some_dig()
        self.refused(dig, Twice, lambda: dig.add_find("f", "x", 1, 2))
        self.refused(dig, NoFind, lambda: dig.move_find("i", "x"))

    def test_on_a_dig_with_nothing_in_it(self):
        dig = Dig(0, 9)
        self.refused(dig, NoUnit, lambda: dig.drop_unit("a"))
        self.refused(dig, NoUnit, lambda: dig.add_tie(("same", "a", "a")))
        self.refused(dig, NoTie, lambda: dig.drop_tie(("same", "a", "a")))
        self.refused(dig, NoUnit, lambda: dig.add_find("f", "a", 1, 2))
        self.refused(dig, NoFind, lambda: dig.move_find("f", "a"))
        self.refused(dig, NoFind, lambda: dig.drop_find("f"))

    def test_what_goes_round_or_has_no_dating_is_still_kept(self):
        dig = Dig(0, 9)
        dig.add_unit("a")
        dig.add_tie(("over", "a", "a"))
        dig.add_find("f", "a", 50, 60)
        self.assertEqual(dig.telling(), ((0, 9), ["a"], [("over", "a", "a")], [("f", "a", 50, 60)]))


class ListsAndOwners(DigTests):
    def test_a_telling_changed_by_the_asker(self):
        dig = some_dig()
        told = dig.telling()
        told[1].clear()
        told[2].append(("over", "x", "y"))
        told[3].reverse()
        self.assertEqual(dig.telling(), SOME)
        dig.add_unit("x")
        self.assertEqual(dig.telling()[1], ["c", "a", "b", "x"])

    def test_nothing_done_later_changes_a_telling(self):
        dig = some_dig()
        told = dig.telling()
        dig.add_unit("x")
        dig.add_tie(("over", "x", "a"))
        dig.move_find("f", "x")
        dig.drop_find("g")
        dig.drop_tie(("over", "c", "a"))
        self.assertEqual(told, SOME)

    def test_two_digs_are_two(self):
        first, second = Dig(0, 9), Dig(0, 9)
        first.add_unit("a")
        first.add_tie(("same", "a", "a"))
        first.add_find("f", "a", 1, 2)
        self.assertEqual(second.telling(), ((0, 9), [], [], []))

    def test_the_lists_of_a_telling_are_several(self):
        told = Dig(0, 9).telling()
        told[1].append("a")
        self.assertEqual(told, ((0, 9), ["a"], [], []))


class PlainDig:
    """Lists alone, changed in the plainest way; what is refused is told by None."""

    def __init__(self):
        self.units, self.ties, self.finds = [], [], []

    def do(self, word, *parts):
        return getattr(self, word)(*parts)

    def add_unit(self, name):
        if name in self.units:
            return None
        self.units.append(name)
        return True

    def drop_unit(self, name):
        used = any(name in tie[1:3] for tie in self.ties) or any(find[1] == name for find in self.finds)
        if name not in self.units or used:
            return None
        self.units.remove(name)
        return True

    def add_tie(self, tie):
        if tie[1] not in self.units or tie[2] not in self.units or tie in self.ties:
            return None
        self.ties.append(tie)
        return True

    def drop_tie(self, tie):
        if tie not in self.ties:
            return None
        self.ties.remove(tie)
        return True

    def add_find(self, *find):
        if find[0] in [other[0] for other in self.finds] or find[1] not in self.units:
            return None
        self.finds.append(find)
        return True

    def move_find(self, name, unit):
        places = [place for place, find in enumerate(self.finds) if find[0] == name]
        if not places or unit not in self.units:
            return None
        self.finds[places[0]] = (name, unit) + self.finds[places[0]][2:]
        return True

    def drop_find(self, name):
        places = [place for place, find in enumerate(self.finds) if find[0] == name]
        if not places:
            return None
        self.finds.pop(places[0])
        return True


def some_deed(chance):
    name, other = chance.choice("abcde"), chance.choice("abcde")
    tie = (chance.choice(KINDS), name, other) if chance.random() < 0.8 else ("after", name, other, chance.randint(0, 2))
    low = chance.randint(0, 9)
    return chance.choice([
        ("add_unit", name), ("drop_unit", name), ("add_tie", tie), ("add_tie", tie), ("drop_tie", tie),
        ("add_find", chance.choice("fgh"), name, low, low + 3), ("move_find", chance.choice("fgh"), name),
        ("drop_find", chance.choice("fgh")),
    ])


def answers(telling):
    made = [shortest_round(telling)]
    for ask in (drawn, levels, spans):
        try:
            made.append(ask(telling))
        except DigError as refusal:
            made.append((type(refusal), vars(refusal)))
    return made


class AsIfOnlyWhatStandsHadBeenTold(unittest.TestCase):
    def test_many_deeds(self):
        for seed in range(40):
            with self.subTest(seed=seed):
                chance = random.Random(seed)
                dig, plain = Dig(0, 12), PlainDig()
                for number in range(120):
                    deed = some_deed(chance)
                    done = plain.do(*deed)
                    try:
                        getattr(dig, deed[0])(*deed[1:])
                        self.assertIs(done, True, deed)
                    except DigError:
                        self.assertIsNone(done, deed)
                    self.assertEqual(dig.telling(), ((0, 12), plain.units, plain.ties, plain.finds))
                anew = Dig(0, 12)
                for unit in plain.units:
                    anew.add_unit(unit)
                for tie in plain.ties:
                    anew.add_tie(tie)
                for find in plain.finds:
                    anew.add_find(*find)
                self.assertEqual(answers(dig.telling()), answers(anew.telling()))


if __name__ == "__main__":
    unittest.main()
