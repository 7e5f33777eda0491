"""A telling, written as lines and read from them."""

from digmatrix.errors import BadName, BadNumber, BadRow, BadSpan, BadTwice, BadUnit
from digmatrix.numbers import is_name, read_number

# What the words behind the first word of a line are.
FORMS = {
    "dig": ("year", "year"),
    "unit": ("name",),
    "over": ("name", "name"),
    "cuts": ("name", "name"),
    "fills": ("name", "name"),
    "after": ("name", "name", "gap"),
    "same": ("name", "name"),
    "find": ("name", "name", "year", "year"),
}


def show_words(words):
    return " ".join([str(word) for word in words])


def show_tie(tie):
    return show_words(tie)


def show_telling(telling):
    lines = [show_words(("dig",) + telling[0])]
    lines.extend([show_words(("unit", name)) for name in telling[1]])
    lines.extend([show_tie(tie) for tie in telling[2]])
    lines.extend([show_words(("find",) + find) for find in telling[3]])
    return "\n".join(lines)


# Blanks alone part words, and split() without a sign would part at more.
def split_words(line):
    return [word for word in line.split(" ") if word != ""]


def is_passed_over(words):
    return words == [] or words[0].startswith(";")


# It asks nothing of the lines above.
def read_entry(words, row):
    if words[0] not in FORMS:
        raise BadRow(row)
    return read_form(FORMS[words[0]], words, row)


# The first word and the values behind it in one tuple, so that a tie's line
# gives the tie itself.
def read_form(form, words, row):
    if len(words) != len(form) + 1:
        raise BadRow(row)
    # In every form names stand ahead of numbers, so a wrong name is met first.
    values = [read_value(kind, word, row) for kind, word in zip(form, words[1:])]
    # Two years at a form's end are a first and a last one.
    if form[-2:] == ("year", "year") and values[-2] > values[-1]:
        raise BadSpan(row)
    return (words[0],) + tuple(values)


def read_value(kind, word, row):
    if kind == "name":
        if not is_name(word):
            raise BadName(row)
        return word
    number = read_number(word)
    if number is None or (kind == "gap" and number < 0):
        raise BadNumber(row)
    return number


# What the lines so far have told. The dicts keep the order of the lines.
class Reading:
    def __init__(self):
        self.frame = None
        self.units = {}
        self.ties = {}
        self.finds = {}

    def take_words(self, words, row):
        # The frame's line is the first one, and there is no other.
        if (words[0] == "dig") != (self.frame is None):
            raise BadRow(row)
        self.take_entry(read_entry(words, row), row)

    def take_entry(self, entry, row):
        if entry[0] == "dig":
            self.frame = entry[1:]
        elif entry[0] == "unit":
            self.take_unit(entry[1], row)
        elif entry[0] == "find":
            self.take_find(entry[1:], row)
        else:
            self.take_tie(entry, row)

    def take_unit(self, name, row):
        if name in self.units:
            raise BadTwice(row)
        self.units[name] = True

    def take_tie(self, tie, row):
        if tie in self.ties:
            raise BadTwice(row)
        self.need_unit(tie[1], row)
        self.need_unit(tie[2], row)
        self.ties[tie] = True

    def take_find(self, find, row):
        if find[0] in self.finds:
            raise BadTwice(row)
        self.need_unit(find[1], row)
        self.finds[find[0]] = find

    def need_unit(self, name, row):
        if name not in self.units:
            raise BadUnit(row)

    def telling(self):
        return (self.frame, list(self.units), list(self.ties), list(self.finds.values()))


def read_telling(text):
    if not isinstance(text, str):
        raise BadRow(0)
    reading = Reading()
    for row, line in enumerate(text.split("\n"), start=1):
        words = split_words(line)
        if not is_passed_over(words):
            reading.take_words(words, row)
    if reading.frame is None:
        raise BadRow(0)
    return reading.telling()
