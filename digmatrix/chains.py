"""Chains of ties that show why a one can have no earlier and no later year."""

from digmatrix.faults import bare_chains, ceilings, floors, gap_of, led_up, refuse_undated
from digmatrix.ones import one_names, ties_beneath
from digmatrix.rounds import order


# For each one a chain up to it with the greatest year, as (year, start, ties).
def chains_up(telling):
    beneath = ties_beneath(telling)
    chains = bare_chains(floors(telling))
    for name in order(telling):
        for lower, tie in beneath[name]:
            chain = led_up(chains[lower], tie)
            if chain[0] > chains[name][0]:
                chains[name] = chain
    return chains


# For each one a chain down to it with the least year, as (year, start, ties).
def chains_down(telling):
    beneath = ties_beneath(telling)
    chains = bare_chains(ceilings(telling))
    for name in reversed(order(telling)):
        for lower, tie in beneath[name]:
            chain = led_down(chains[name], tie)
            if chain[0] < chains[lower][0]:
                chains[lower] = chain
    return chains


# A chain down is told from the one that it leads to, so the new tie is first.
def led_down(chain, tie):
    return (chain[0] - gap_of(tie), chain[1], [tie] + chain[2])


def reasons(telling, name):
    refuse_undated(telling)
    one = one_names(telling[1], telling[2])[name]
    up = chains_up(telling)[one]
    down = chains_down(telling)[one]
    return (up[1:], down[1:])
