"""Units that same ties join are one, and the other ties lie between ones."""


# Each unit's name with the name of its one.
def one_names(units, ties):
    names = {}
    for unit in units:
        names[unit] = unit
    for tie in ties:
        if tie[0] == "same":
            join_ones(names, names[tie[1]], names[tie[2]])
    return names


def join_ones(names, first, second):
    least = min(first, second)
    for unit in list(names):
        if names[unit] in (first, second):
            names[unit] = least


def one_of(units, ties, name):
    return one_names(units, ties)[name]


def ones(units, ties):
    names = one_names(units, ties)
    members = {}
    # Walked rising, each one is first met at its least unit, which names it.
    for unit in sorted(units):
        members.setdefault(names[unit], []).append(unit)
    return list(members.values())


# For each one, names rising, what its ties say lies beneath it: a list of
# tuples (the other one's name, the tie).
def ties_beneath(telling):
    names = one_names(telling[1], telling[2])
    beneath = {}
    for members in ones(telling[1], telling[2]):
        beneath[members[0]] = []
    for tie in telling[2]:
        if tie[0] != "same":
            beneath[names[tie[1]]].append((names[tie[2]], tie))
    return beneath
