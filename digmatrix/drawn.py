"""The drawn matrix: the pairs of ones that no others tell, and walks along it."""

from digmatrix.ones import one_names, ties_beneath
from digmatrix.rounds import order


# For each one all that lie beneath it, in however many steps.
def all_beneath(telling):
    straight = ties_beneath(telling)
    depths = {}
    for name in order(telling):
        depths[name] = {}
        for lower, tie in straight[name]:
            depths[name][lower] = True
            depths[name].update(depths[lower])
    return depths


def drawn(telling):
    straight = ties_beneath(telling)
    depths = all_beneath(telling)
    pairs = {}
    for name in straight:
        for lower, tie in straight[name]:
            if not lies_between(depths, name, lower):
                pairs[(name, lower)] = True
    return sorted(pairs)


def lies_between(depths, upper, lower):
    return any([lower in depths[third] for third in depths[upper]])


def walk(telling, upper, lower):
    names = one_names(telling[1], telling[2])
    depths = all_beneath(telling)
    end = names[lower]
    if end not in depths[names[upper]]:
        return []
    pairs = drawn(telling)
    path = [names[upper]]
    while path[-1] != end:
        path.append(step_towards(end, path[-1], pairs, depths))
    return path


# A one above the end always has a drawn pair with one that is the end or is
# above it too, so no step has to be taken back.
def step_towards(end, name, pairs, depths):
    steps = [pair[1] for pair in pairs if pair[0] == name and (pair[1] == end or end in depths[pair[1]])]
    return steps[0]
