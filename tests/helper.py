"""What several tests need: tellings by chance, and slow answers made straight from the document's words."""

import itertools

ABOVE = ("over", "cuts", "fills", "after")


def telling(units, rows="", finds=(), frame=(0, 9999)):
    """units as names parted by blanks, rows as ties parted by commas."""
    ties = []
    for row in rows.split(","):
        words = row.split()
        if words:
            ties.append(tuple(words[:3]) + tuple(int(word) for word in words[3:]))
    return (frame, units.split(), ties, list(finds))


def frozen(thing):
    return repr(thing)


def some_ties(chance, units, count, goes_round, gap):
    heights = list(units)
    chance.shuffle(heights)
    ties = []
    for time in range(count):
        first, second = chance.choice(units), chance.choice(units)
        kind = chance.choice(ABOVE)
        if not goes_round:
            if first == second:
                continue
            if heights.index(first) < heights.index(second):
                first, second = second, first
        tie = (kind, first, second) + ((chance.randint(0, gap),) if kind == "after" else ())
        if tie not in ties:
            ties.append(tie)
    return ties


def some_telling(chance, most_units=6, most_ties=8, sames=0, most_finds=0, goes_round=False, frame=(0, 5), gap=2):
    units = ["".join(chance.choice("ab-9z") for place in range(3)) for number in range(chance.randint(1, most_units))]
    units = list(dict.fromkeys(units))
    ties = some_ties(chance, units, chance.randint(0, most_ties), goes_round, gap)
    for number in range(chance.randint(0, sames)):
        tie = ("same", chance.choice(units), chance.choice(units))
        if tie not in ties:
            ties.append(tie)
    chance.shuffle(ties)
    finds = []
    for number in range(chance.randint(0, most_finds)):
        low, high = sorted(chance.randint(frame[0] - 1, frame[1] + 1) for year in range(2))
        finds.append((f"f{number}", chance.choice(units), low, high))
    chance.shuffle(finds)
    return (frame, units, ties, finds)


def great_telling(chance, units=60, ties=200, finds=100, frame=(0, 9999)):
    """As many of all as there may be, without a round and with a dating: each unit keeps to a year of its own."""
    names = [f"u{number}" for number in range(units)]
    chance.shuffle(names)
    years = {name: 100 + 20 * place for place, name in enumerate(names)}
    told = []
    while len(told) < ties:
        lower, upper = sorted(chance.sample(names, 2), key=years.get)
        kind = chance.choice(ABOVE)
        gap = (chance.randint(0, years[upper] - years[lower]),) if kind == "after" else ()
        tie = (kind, upper, lower) + gap
        if tie not in told:
            told.append(tie)
    found = []
    for number in range(finds):
        name = chance.choice(names)
        found.append((f"f{number}", name, years[name] - chance.randint(0, 900), years[name] + chance.randint(0, 900)))
    return (frame, sorted(names), told, found)


def one_map(told):
    """Each unit with the name of its one, by joining until nothing changes."""
    groups = {unit: {unit} for unit in told[1]}
    changed = True
    while changed:
        changed = False
        for tie in told[2]:
            if tie[0] == "same" and groups[tie[1]] != groups[tie[2]]:
                both = groups[tie[1]] | groups[tie[2]]
                for unit in both:
                    groups[unit] = both
                changed = True
    return {unit: min(groups[unit]) for unit in told[1]}


def one_list(told):
    return sorted(set(one_map(told).values()))


def links(told):
    names = one_map(told)
    return [(names[tie[1]], names[tie[2]], tie) for tie in told[2] if tie[0] != "same"]


def above_pairs(told):
    """All (A, B) of which A lies above B, in however many steps."""
    pairs = {(upper, lower) for upper, lower, tie in links(told)}
    while True:
        more = {(first, last) for first, middle in pairs for other, last in pairs if middle == other} - pairs
        if not more:
            return pairs
        pairs |= more


def round_size(told):
    """How many ties a shortest round has, or None: walks of one tie, of two, and so on, until one comes back."""
    steps = {(upper, lower) for upper, lower, tie in links(told)}
    walks = set(steps)
    for size in range(1, len(told[1]) + 1):
        if any(first == last for first, last in walks):
            return size
        walks = {(first, last) for first, middle in walks for other, last in steps if middle == other}
    return None


def is_round(told, ties):
    names = one_map(told)
    if type(ties) is not list or not ties:
        return False
    if any(tie not in told[2] or tie[0] == "same" for tie in ties):
        return False
    return all(names[tie[2]] == names[behind[1]] for tie, behind in zip(ties, ties[1:] + ties[:1]))


def gap_of(tie):
    return tie[3] if tie[0] == "after" else 0


def allows(told, years):
    """Whether the years, a dict of all ones, are a dating."""
    names = one_map(told)
    first, last = told[0]
    return (
        all(first <= year <= last for year in years.values())
        and all(low <= years[names[unit]] <= high for name, unit, low, high in told[3])
        and all(years[upper] >= years[lower] + gap_of(tie) for upper, lower, tie in links(told))
    )


def all_datings(told):
    names = one_list(told)
    first, last = told[0]
    made = [dict(zip(names, years)) for years in itertools.product(range(first, last + 1), repeat=len(names))]
    return [years for years in made if allows(told, years)]


def lows_and_highs(told):
    """For each one its starts (name, low) and its ends (name, high), the frame among them."""
    names = one_map(told)
    starts = {name: [("", told[0][0])] for name in one_list(told)}
    ends = {name: [("", told[0][1])] for name in one_list(told)}
    for name, unit, low, high in told[3]:
        starts[names[unit]].append((name, low))
        ends[names[unit]].append((name, high))
    return starts, ends


def fewest_ties_of_a_row(told):
    """By going through every row there is, of no tie, of one, and so on; None where each can be."""
    starts, ends = lows_and_highs(told)
    rows = [(name, low) for name in starts for start, low in starts[name]]
    size = 0
    while rows:
        if any(year > high for name, year in rows for end, high in ends[name]):
            return size
        rows = list({(upper, year + gap_of(tie)) for name, year in rows for upper, lower, tie in links(told)
                     if lower == name})
        size += 1
    return None


def leads_up(told, ties):
    """Whether none is a same tie and the B of each next one is one with the A of the one ahead."""
    names = one_map(told)
    if type(ties) is not list or any(tie not in told[2] or tie[0] == "same" for tie in ties):
        return False
    return all(names[tie[1]] == names[behind[2]] for tie, behind in zip(ties, ties[1:]))


def where_found(told, find):
    return [one_map(told)[unit] for name, unit, low, high in told[3] if name == find][0]


def year_found(told, find, place):
    """A find's low (place 2) or high (place 3), or the frame's, of which the name is the text without signs."""
    if find == "":
        return told[0][place - 2]
    return [each[place] for each in told[3] if each[0] == find][0]


def year_of_chain_up(told, chain, one):
    """The year of a chain up to a one, or None where it is none."""
    start, ties = chain
    names = one_map(told)
    if type(chain) is not tuple or not leads_up(told, ties):
        return None
    if ties and names[ties[-1][1]] != one:
        return None
    begins = names[ties[0][2]] if ties else one
    if start != "" and where_found(told, start) != begins:
        return None
    return year_found(told, start, 2) + sum(gap_of(tie) for tie in ties)


def year_of_chain_down(told, chain, one):
    """The year of a chain down to a one, or None where it is none."""
    start, ties = chain
    names = one_map(told)
    if type(chain) is not tuple or not leads_up(told, ties):
        return None
    if ties and names[ties[0][2]] != one:
        return None
    ends = names[ties[-1][1]] if ties else one
    if start != "" and where_found(told, start) != ends:
        return None
    return year_found(told, start, 3) - sum(gap_of(tie) for tie in ties)


def cannot_be(told, row):
    """Whether it is a row of which the year is above the end's high."""
    if type(row) is not tuple or len(row) != 3 or not leads_up(told, row[1]):
        return False
    start, ties, end = row
    names = one_map(told)
    first = where_found(told, start) if start != "" else None
    last = where_found(told, end) if end != "" else None
    if ties:
        if first not in (None, names[ties[0][2]]) or last not in (None, names[ties[-1][1]]):
            return False
    elif None not in (first, last) and first != last:
        return False
    year = year_found(told, start, 2) + sum(gap_of(tie) for tie in ties)
    return year > year_found(told, end, 3)
