"""A desk: rows of words, done to a dig or asked of it, each answered with a text."""

from digmatrix.digs import Dig
from digmatrix.errors import NoDeed, NoUnit, TextError
from digmatrix.matrix import show_matrix
from digmatrix.rounds import order, shortest_round
from digmatrix.tellings import read_entry, read_form, show_telling, show_tie
from digmatrix.years import dating, spans

FIRST_YEAR = 0
LAST_YEAR = 9999

# Rows that no telling has, besides untie: what the words behind the first are.
DEEDS = {
    "drop": ("name",),
    "move": ("name", "name"),
    "lose": ("name",),
}
QUESTIONS = {
    "order": (),
    "spans": (),
    "date": ("name", "year"),
    "draw": (),
    "tell": (),
    "round": (),
}


# A tuple of the first word and the values behind it; of a tie the tie itself.
def read_row(row):
    if not isinstance(row, str):
        raise NoDeed()
    try:
        return read_words(row.split(" "))
    except TextError:
        raise NoDeed() from None


def read_words(words):
    if words[0] == "untie":
        return ("untie", read_tie(words[1:]))
    if words[0] in DEEDS:
        return read_form(DEEDS[words[0]], words, 0)
    if words[0] in QUESTIONS:
        return read_form(QUESTIONS[words[0]], words, 0)
    return read_entry(words, 0)


def read_tie(words):
    if words == [] or words[0] in ("dig", "unit", "find"):
        raise NoDeed()
    return read_entry(words, 0)


def do_deed(dig, deed):
    if deed[0] == "unit":
        dig.add_unit(deed[1])
    elif deed[0] == "drop":
        dig.drop_unit(deed[1])
    elif deed[0] == "untie":
        dig.drop_tie(deed[1])
    elif deed[0] == "find":
        dig.add_find(deed[1], deed[2], deed[3], deed[4])
    elif deed[0] == "move":
        dig.move_find(deed[1], deed[2])
    elif deed[0] == "lose":
        dig.drop_find(deed[1])
    else:
        dig.add_tie(deed)


def answer(telling, question):
    if question[0] == "order":
        return " ".join(order(telling))
    if question[0] == "spans":
        return " ".join([f"{name}:{low}..{high}" for name, low, high in spans(telling)])
    if question[0] == "date":
        return show_dating(telling, question[1], question[2])
    if question[0] == "draw":
        return show_matrix(telling)
    if question[0] == "tell":
        return show_telling(telling)
    return show_round(telling)


def show_dating(telling, unit, asked):
    if unit not in telling[1]:
        raise NoUnit()
    return " ".join([f"{name}:{year}" for name, year in dating(telling, unit, asked)])


def show_round(telling):
    ties = shortest_round(telling)
    if ties == []:
        return "none"
    return "; ".join([show_tie(tie) for tie in ties])


class Desk:
    def __init__(self):
        self.dig = Dig(FIRST_YEAR, LAST_YEAR)

    def say(self, row):
        deed = read_row(row)
        if deed[0] in QUESTIONS:
            return answer(self.dig.telling(), deed)
        if deed[0] == "dig":
            self.dig = Dig(deed[1], deed[2])
        else:
            do_deed(self.dig, deed)
        return "ok"
