"""One order of all ones, or a shortest round of ties."""

from digmatrix.errors import Round
from digmatrix.ones import ties_beneath


def shortest_round(telling):
    beneath = ties_beneath(telling)
    shortest = []
    for name in beneath:
        ties = round_through(name, beneath)
        if ties != [] and (shortest == [] or len(ties) < len(shortest)):
            shortest = ties
    return shortest


# All ways down grow by one tie at a time, so the first that comes back to
# where it began is as short as any; a one that was met has a way as short.
def round_through(start, beneath):
    met = {}
    ways = [(start, [])]
    while ways != []:
        longer = []
        for name, ties in ways:
            for lower, tie in beneath[name]:
                if lower == start:
                    return ties + [tie]
                if lower not in met:
                    met[lower] = True
                    longer.append((lower, ties + [tie]))
        ways = longer
    return []


def refuse_round(telling):
    ties = shortest_round(telling)
    if ties != []:
        raise Round(ties)


def order(telling):
    refuse_round(telling)
    beneath = ties_beneath(telling)
    placed = {}
    while len(placed) < len(beneath):
        placed[least_free(beneath, placed)] = True
    return list(placed)


# Where no ties go round, some one is always free; the names are rising.
def least_free(beneath, placed):
    free = [name for name in beneath if name not in placed and rests_on(beneath[name], placed)]
    return free[0]


def rests_on(lowers, placed):
    return all([lower in placed for lower, tie in lowers])
