"""The years that each one can have, and whole datings."""

from digmatrix.chains import chains_down, chains_up
from digmatrix.errors import NoYear
from digmatrix.faults import ceilings, floors, gap_of, refuse_undated
from digmatrix.ones import one_names, ties_beneath


def is_dating(telling, pairs):
    beneath = ties_beneath(telling)
    if [pair[0] for pair in pairs] != list(beneath):
        return False
    years = dict(pairs)
    return lie_in_bounds(telling, years) and all([keeps_ties(beneath[name], years, name) for name in beneath])


def lie_in_bounds(telling, years):
    starts = floors(telling)
    ends = ceilings(telling)
    return all([starts[name][0] <= years[name] <= ends[name][0] for name in years])


def keeps_ties(lowers, years, name):
    return all([years[name] >= years[lower] + gap_of(tie) for lower, tie in lowers])


def spans(telling):
    refuse_undated(telling)
    ups = chains_up(telling)
    downs = chains_down(telling)
    return [(name, ups[name][0], downs[name][0]) for name in ups]


# The first years together are a dating. So the first years of this telling
# with one more find, which leaves the one this year alone, are one too.
def dating(telling, name, year):
    refuse_undated(telling)
    one = one_names(telling[1], telling[2])[name]
    if not chains_up(telling)[one][0] <= year <= chains_down(telling)[one][0]:
        raise NoYear()
    finds = telling[3] + [("", name, year, year)]
    chains = chains_up((telling[0], telling[1], telling[2], finds))
    return [(each, chains[each][0]) for each in chains]
