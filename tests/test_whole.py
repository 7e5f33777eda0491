"""[1], [2] and [3] over the whole program, and that every name of the interface is there with its arguments."""

import copy
import inspect
import os
import random
import subprocess
import sys
import time
import unittest

from digmatrix import chains, desk, digs, drawn, errors, levels, matrix, numbers, ones, rounds, tellings, years
from tests import helper

TOP = os.path.dirname(os.path.dirname(os.path.abspath(__file__)))

# How many arguments each takes.
FUNCTIONS = (
    (numbers, "is_name", 1), (numbers, "read_number", 1), (tellings, "show_tie", 1), (tellings, "show_telling", 1),
    (tellings, "read_telling", 1), (ones, "one_of", 3), (ones, "ones", 2), (rounds, "shortest_round", 1),
    (rounds, "order", 1), (drawn, "drawn", 1), (drawn, "walk", 3), (years, "is_dating", 2), (years, "spans", 1),
    (years, "dating", 3), (chains, "reasons", 2), (levels, "levels", 1), (levels, "period_of", 3),
    (matrix, "show_matrix", 1), (matrix, "read_matrix", 1), (digs, "Dig", 2), (desk, "Desk", 0),
)
METHODS = (
    (digs.Dig, "add_unit", 1), (digs.Dig, "drop_unit", 1), (digs.Dig, "add_tie", 1), (digs.Dig, "drop_tie", 1),
    (digs.Dig, "add_find", 4), (digs.Dig, "move_find", 2), (digs.Dig, "drop_find", 1), (digs.Dig, "telling", 0),
    (desk.Desk, "say", 1),
)

# All that is asked of one telling, shown as a text.
SCRIPT = """
import random
from tests import helper, test_whole
for seed in range(12):
    whole = helper.some_telling(random.Random(seed), 8, 9, sames=seed % 2, most_finds=3, goes_round=seed % 3 == 0)
    print(test_whole.all_answers(whole))
print(test_whole.all_answers(helper.great_telling(random.Random(1), units=20, ties=60, finds=20)))
"""


def told(ask, *parts):
    try:
        return ask(*parts)
    except errors.DigError as refusal:
        return (type(refusal).__name__, vars(refusal))


def all_answers(whole):
    units, ties = whole[1], whole[2]
    answers = [ones.ones(units, ties), told(rounds.shortest_round, whole), told(rounds.order, whole),
               told(drawn.drawn, whole), told(years.spans, whole), told(levels.levels, whole),
               told(matrix.show_matrix, whole), tellings.show_telling(whole)]
    for name in units:
        answers += [ones.one_of(units, ties, name), told(chains.reasons, whole, name)]
        answers += [told(years.dating, whole, name, year) for year in (whole[0][0], whole[0][1], 2)]
        answers += [told(drawn.walk, whole, name, other) for other in units]
    return answers


def undone(thing):
    """Every list within is emptied, as an asker may."""
    if isinstance(thing, dict):
        thing = list(thing.values())
    if isinstance(thing, (list, tuple)):
        for part in thing:
            undone(part)
    if isinstance(thing, list):
        thing.clear()


def some_tellings():
    for seed in range(40):
        yield helper.some_telling(random.Random(seed), 6, 7, sames=seed % 3, most_finds=3, goes_round=seed % 4 == 0)


class Interface(unittest.TestCase):
    def test_functions_and_classes(self):
        for module, name, count in FUNCTIONS:
            with self.subTest(name=name):
                self.assertEqual(len(inspect.signature(getattr(module, name)).parameters), count)

    def test_methods(self):
        for owner, name, count in METHODS:
            with self.subTest(name=name):
                self.assertEqual(len(inspect.signature(getattr(owner, name)).parameters), count + 1)


class NoClockChanceOrFiles(unittest.TestCase):
    def test_the_same_answers_in_every_process(self):
        shown = set()
        for seed in ("0", "1", "2", "77"):
            surroundings = dict(os.environ, PYTHONHASHSEED=seed, PYTHONPATH=TOP)
            run = subprocess.run([sys.executable, "-c", SCRIPT], cwd=TOP, env=surroundings, capture_output=True, text=True)
            self.assertEqual(run.stderr, "")
            shown.add(run.stdout)
        self.assertEqual(len(shown), 1)

    def test_only_the_programs_own_modules_are_drawn_in(self):
        script = "import sys\nbefore = set(sys.modules)\nimport digmatrix.desk, digmatrix.chains\n" \
                 "print(' '.join(sorted(set(sys.modules) - before)))"
        run = subprocess.run([sys.executable, "-c", script], cwd=TOP, capture_output=True, text=True)
        self.assertTrue(run.stdout.split())
        for name in run.stdout.split():
            self.assertRegex(name, r"^digmatrix(\.|$)")


class Owners(unittest.TestCase):
    def test_what_is_handed_in_stays_as_it_was(self):
        for whole in some_tellings():
            before = copy.deepcopy(whole)
            all_answers(whole)
            self.assertEqual(whole, before)
            self.assertEqual(repr(whole), repr(before))

    def test_what_is_told_is_emptied_by_the_asker_and_asked_again(self):
        for whole in some_tellings():
            before = copy.deepcopy(whole)
            first = all_answers(whole)
            kept = copy.deepcopy(first)
            undone(first)
            self.assertEqual(whole, before)
            self.assertEqual(all_answers(whole), kept)

    def test_what_was_handed_in_is_changed_by_its_owner(self):
        for whole in some_tellings():
            first = all_answers(whole)
            kept = copy.deepcopy(first)
            undone(whole)
            self.assertEqual(first, kept)

    def test_no_two_lists_that_are_told_are_one(self):
        for whole in some_tellings():
            seen = {id(part) for part in whole[1:]}
            first = all_answers(whole)
            waiting = list(first)
            while waiting:
                part = waiting.pop()
                if isinstance(part, dict):
                    waiting.extend(part.values())
                elif isinstance(part, (list, tuple)):
                    waiting.extend(part)
                    if isinstance(part, list):
                        self.assertNotIn(id(part), seen)
                        seen.add(id(part))


class AllOfIt(unittest.TestCase):
    def test_an_order_or_a_round_and_years_or_a_row(self):
        seen = set()
        for seed in range(400):
            whole = helper.some_telling(random.Random(seed), 7, 9, sames=seed % 2, most_finds=4, goes_round=seed % 3 == 0)
            size = helper.round_size(whole)
            if size is not None:
                seen.add("round")
                self.assertEqual(len(rounds.shortest_round(whole)), size)
                continue
            self.assertEqual(sorted(rounds.order(whole)), helper.one_list(whole))
            fewest = helper.fewest_ties_of_a_row(whole)
            if fewest is not None:
                seen.add("row")
                with self.assertRaises(errors.NoDating) as caught:
                    years.spans(whole)
                self.assertTrue(helper.cannot_be(whole, caught.exception.row))
                self.assertEqual(len(caught.exception.row[1]), fewest)
                continue
            seen.add("years")
            found = years.spans(whole)
            self.assertTrue(helper.allows(whole, {name: low for name, low, high in found}))
            self.assertTrue(helper.allows(whole, {name: high for name, low, high in found}))
        self.assertEqual(seen, {"round", "row", "years"})

    def test_somewhat_beyond_the_bounds_and_in_good_time(self):
        begun = time.process_time()
        whole = helper.great_telling(random.Random(2), units=66, ties=220, finds=110)
        writer = desk.Desk()
        for row in tellings.show_telling(whole).split("\n"):
            self.assertEqual(writer.say(row), "ok")
        self.assertEqual(writer.say("tell"), tellings.show_telling(whole))
        self.assertEqual(writer.say("order"), " ".join(rounds.order(whole)))
        self.assertEqual(writer.say("draw"), matrix.show_matrix(whole))
        self.assertEqual(matrix.read_matrix(writer.say("draw")), (levels.levels(whole), drawn.drawn(whole)))
        for name, low, high in years.spans(whole):
            self.assertIn(f"{name}:{low}", writer.say(f"date {name} {low}").split(" "))
            self.assertIn(f"{name}:{high}", writer.say(f"date {name} {high}").split(" "))
        self.assertLess(time.process_time() - begun, 60)


if __name__ == "__main__":
    unittest.main()
