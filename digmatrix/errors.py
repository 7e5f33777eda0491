"""The refusals of the program, each a class of its own."""


class DigError(ValueError):
    pass


# Each class with a field hands words of its own to its base: Python would
# else keep the very list that was handed in, and show it.


class TextError(DigError):
    def __init__(self, row):
        DigError.__init__(self, f"refused at line {row}")
        self.row = row


class BadRow(TextError):
    pass


class BadName(TextError):
    pass


class BadNumber(TextError):
    pass


class BadSpan(TextError):
    pass


class BadTwice(TextError):
    pass


class BadUnit(TextError):
    pass


class Round(DigError):
    def __init__(self, ties):
        DigError.__init__(self, "a round of ties")
        self.ties = list(ties)


class NoDating(DigError):
    def __init__(self, row):
        DigError.__init__(self, "no dating")
        self.row = (row[0], list(row[1]), row[2])


class NoMatrix(DigError):
    def __init__(self, row):
        DigError.__init__(self, f"no matrix: line {row}")
        self.row = row


class NoYear(DigError):
    pass


class Twice(DigError):
    pass


class NoUnit(DigError):
    pass


class NoTie(DigError):
    pass


class NoFind(DigError):
    pass


class InUse(DigError):
    pass


class NoDeed(DigError):
    pass
