"""Levels of ones, and a span of years told against periods."""

from digmatrix.ones import ties_beneath
from digmatrix.rounds import order


def levels(telling):
    beneath = ties_beneath(telling)
    numbers = {}
    rows = []
    for name in order(telling):
        number = max([numbers[lower] + 1 for lower, tie in beneath[name]], default=0)
        numbers[name] = number
        # Those beneath come first, so no level is left out.
        if number == len(rows):
            rows.append([])
        rows[number].append(name)
    return [sorted(row) for row in rows]


def period_of(low, high, periods):
    for name, first, last in periods:
        if first <= low and high <= last:
            return ("sure", [name])
    names = [name for name, first, last in periods if first <= high and low <= last]
    return ("none" if names == [] else "maybe", names)
