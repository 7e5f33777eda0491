"""The matrix drawn as text, and such a text read."""

from digmatrix.drawn import drawn
from digmatrix.errors import NoMatrix
from digmatrix.levels import levels
from digmatrix.numbers import is_name, read_number


def show_matrix(telling):
    rows = levels(telling)
    lines = [show_level(number, rows[number]) for number in range(len(rows) - 1, -1, -1)]
    lines.extend([f"{upper} > {lower}" for upper, lower in drawn(telling)])
    return "\n".join(lines)


def show_level(number, names):
    listed = " ".join(names)
    return f"{number}: {listed}"


# What the lines so far have told, the levels from the greatest down.
class MatrixReading:
    def __init__(self):
        self.number = None
        self.rows = []
        self.known = {}
        self.pairs = []

    # Whether the line is right. What a wrong line leaves here is not read.
    def takes_line(self, line):
        words = line.split(" ")
        if words[0].endswith(":"):
            return self.takes_number(read_number(words[0][:-1])) and self.takes_names(words[1:])
        return len(words) == 3 and words[1] == ">" and self.takes_pair((words[0], words[2]))

    def takes_number(self, number):
        if number is None or number < 0 or self.pairs != []:
            return False
        if self.number is not None and number != self.number - 1:
            return False
        self.number = number
        return True

    def takes_names(self, names):
        # A blank too many makes a word without signs, which is no name.
        if names == [] or names != sorted(names):
            return False
        for name in names:
            if not is_name(name) or name in self.known:
                return False
            self.known[name] = True
        self.rows.append(names)
        return True

    def takes_pair(self, pair):
        if pair[0] not in self.known or pair[1] not in self.known:
            return False
        if self.pairs != [] and pair <= self.pairs[-1]:
            return False
        self.pairs.append(pair)
        return True


def read_matrix(text):
    if not isinstance(text, str):
        raise NoMatrix(0)
    if text == "":
        return ([], [])
    reading = MatrixReading()
    lines = text.split("\n")
    for row, line in enumerate(lines, start=1):
        if not reading.takes_line(line):
            raise NoMatrix(row)
    if reading.number != 0:
        raise NoMatrix(len(lines) + 1)
    return (list(reversed(reading.rows)), reading.pairs)
