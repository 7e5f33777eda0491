"""What bounds the years of each one, and a shortest row of things that can't all be."""

from digmatrix.errors import NoDating
from digmatrix.ones import one_names, ones, ties_beneath
from digmatrix.rounds import refuse_round


def gap_of(tie):
    return tie[3] if tie[0] == "after" else 0


# For each one, names rising, the finds in its units.
def finds_within(telling):
    names = one_names(telling[1], telling[2])
    within = {}
    for members in ones(telling[1], telling[2]):
        within[members[0]] = []
    for find in telling[3]:
        within[names[find[1]]].append(find)
    return within


# For each one, without regard to ties, the first year that the frame and its
# finds leave it, and which of these it comes from: a tuple (year, start).
def floors(telling):
    within = finds_within(telling)
    starts = {}
    for name in within:
        starts[name] = max([(telling[0][0], "")] + [(find[2], find[0]) for find in within[name]])
    return starts


# Likewise the last year that they leave it: a tuple (year, end).
def ceilings(telling):
    within = finds_within(telling)
    ends = {}
    for name in within:
        ends[name] = min([(telling[0][1], "")] + [(find[3], find[0]) for find in within[name]])
    return ends


# A chain as it is reckoned here: a tuple (year, start, ties).
def bare_chains(bounds):
    chains = {}
    for name in bounds:
        chains[name] = bounds[name] + ([],)
    return chains


def led_up(chain, tie):
    return (chain[0] + gap_of(tie), chain[1], chain[2] + [tie])


# Of all chains up to a one with the same number of ties only that of the
# greatest year is kept, since it passes an end wherever another does.
def one_tie_longer(beneath, chains):
    longer = {}
    for name in beneath:
        for lower, tie in beneath[name]:
            if lower in chains:
                chain = led_up(chains[lower], tie)
                if name not in longer or chain[0] > longer[name][0]:
                    longer[name] = chain
    return longer


# Chains grow by one tie at a time, so the first that passes an end has the
# fewest ties; without a round there is a longest, and the search ends. None
# where there is a dating.
def impossible_row(telling):
    beneath = ties_beneath(telling)
    ends = ceilings(telling)
    chains = bare_chains(floors(telling))
    while chains != {}:
        for name in chains:
            if chains[name][0] > ends[name][0]:
                return (chains[name][1], chains[name][2], ends[name][1])
        chains = one_tie_longer(beneath, chains)
    return None


def refuse_undated(telling):
    refuse_round(telling)
    row = impossible_row(telling)
    if row is not None:
        raise NoDating(row)
