"""Plain searches over all that could be, to hold the program against at small inputs.

They are written from DOC.md alone. What copies have heard comes as a dict of sets by marks; which deed knows which
comes as a list of lots: for each deed those that it knows.
"""

from itertools import combinations, permutations, product


def all_lots(members):
    """All lots of these members, in lot order."""
    return [lot for size in range(len(members) + 1) for lot in combinations(sorted(members), size)]


# Copies that cover one another.

def covering(heard, lot, mark):
    """Whether each deed that the copy has heard has been heard by a copy of the lot."""
    return all(any(deed in heard[member] for member in lot) for deed in heard[mark])


def least_covers_of(heard, mark):
    """Of all lots that cover the copy those in which there is no lesser one."""
    lots = [lot for lot in all_lots(heard) if lot and covering(heard, lot, mark)]
    return [lot for lot in lots if not any(set(less) < set(lot) for less in lots)]


def heard_behind(heard, steps):
    """What is heard behind steps that can be done; deeds to come are numbered from 1000 on."""
    heard = {mark: set(heard[mark]) for mark in heard}
    next_mark = 100
    for at, step in enumerate(steps):
        if step[0] == "fork":
            heard[next_mark] = set(heard[step[1]])
            next_mark += 1
        if step[0] == "deed":
            heard[step[1]].add(1000 + at)
        if step[0] in ("hear", "join"):
            heard[step[1]] |= heard[step[2]]
        if step[0] in ("join", "lose"):
            del heard[step[-1]]
    return heard


def steps_of(marks, names):
    """All steps of such names of copies with these marks."""
    found = []
    for name in names:
        if name in ("hear", "join"):
            found.extend((name,) + pair for pair in permutations(sorted(marks), 2))
        else:
            found.extend((name, mark) for mark in sorted(marks))
    return found


def fewest_hears(heard, done):
    """The fewest hear steps behind which done tells that it is done, of what is heard then."""
    now = {tuple(sorted((mark, frozenset(lot)) for mark, lot in heard.items()))}
    count = 0
    while not any(done(dict(state)) for state in now):
        further = set()
        for state in now:
            for _, one, other in steps_of(heard, ("hear",)):
                later = dict(state)
                later[one] = later[one] | later[other]
                further.add(tuple(sorted(later.items(), key=lambda pair: pair[0])))
        now = further
        count += 1
    return count


def join_plans(marks):
    """All tuples of join steps that leave one of these copies."""
    if len(marks) == 1:
        return [()]
    found = []
    for step in steps_of(marks, ("join",)):
        left = [mark for mark in marks if mark != step[2]]
        found.extend((step,) + later for later in join_plans(left))
    return found


# Orders of deeds.

def orders(count):
    """All orders of so many deeds in which a deed knows just such as stand ahead of it."""
    if count == 0:
        return [[]]
    found = []
    for known in orders(count - 1):
        for lot in all_lots(range(count - 1)):
            if all(set(known[deed]) <= set(lot) for deed in lot):
                found.append(known + [lot])
    return found


def history_of(known):
    """A history whose deeds know one another so: of at most eight deeds, each done by a copy of its own."""
    steps = [("fork", 0)] * (len(known) - 1)
    for deed, lot in enumerate(known):
        straight = [other for other in lot if not any(other in known[between] for between in lot)]
        steps += [("hear", deed, other) for other in straight] + [("deed", deed)]
    return tuple(steps)


def apart(known, deed, other):
    """Whether two deeds are apart."""
    return deed != other and deed not in known[other] and other not in known[deed]


def rows_of(known):
    """All rows."""
    lots = [lot for lot in all_lots(range(len(known))) if lot]
    return [lot for lot in lots if all(one in known[other] for one, other in combinations(lot, 2))]


def antichains_of(known):
    """All lots of deeds each two of which are apart."""
    return [lot for lot in all_lots(range(len(known)))
            if all(apart(known, one, other) for one, other in combinations(lot, 2))]


def row_sharings_of(known):
    """All row sharings, of each just one sequence of its rows."""
    rows = rows_of(known)

    def share(left):
        if not left:
            return [()]
        return [(row,) + rest for row in rows if row[0] == left[0] and set(row) <= set(left)
                for rest in share([deed for deed in left if deed not in row])]
    return share(list(range(len(known))))


def sequences_of(known):
    """All sequences of the deeds in which each one stands behind those that it knows."""
    return [row for row in permutations(range(len(known)))
            if all(row.index(other) < row.index(deed) for deed, lot in enumerate(known) for other in lot)]


def fewest_entries_of(known):
    """The least number of sequences that have all in common just what the deeds know; 1 at least."""
    count = len(known)
    pairs = [(one, other) for one in range(count) for other in range(count)]
    aim = sum(1 << at for at, (one, other) in enumerate(pairs) if one in known[other])
    told = set()
    for row in sequences_of(known):
        told.add(sum(1 << at for at, (one, other) in enumerate(pairs) if row.index(one) < row.index(other)))
    now = told
    fewest = 1
    while aim not in now:
        now = {one & other for one in now for other in told}
        fewest += 1
    return fewest


def entries_fit(known, entries):
    """Whether tuples of integers are told for the deeds as [21] asks."""
    return all(all(a <= b for a, b in zip(entries[one], entries[other])) == (one in known[other] or one == other)
               for one in range(len(known)) for other in range(len(known)))


def crown_fits(known, first, second):
    """Whether two tuples of deeds are a crown."""
    if len(first) != len(second) or len(first) < 2 or len(set(first + second)) != 2 * len(first):
        return False
    return all((first[j] in known[second[i]]) == (i != j) for i, j in product(range(len(first)), repeat=2))


def greatest_crown_of(known):
    """The greatest k of a crown; 0 if there is none."""
    best = 0
    for size in range(2, len(known) // 2 + 1):
        for first in combinations(range(len(known)), size):
            left = [deed for deed in range(len(known)) if deed not in first]
            if any(crown_fits(known, first, second) for second in permutations(left, size)):
                best = size
                break
    return best
