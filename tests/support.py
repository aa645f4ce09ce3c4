"""What the tests have in common: a plain model by cells, trees of a wanted size, calls, and wrong values.

The model tells a share as a list of 2 ** k zeros and ones, and counts as a list of 2 ** k worths,
one for each path of k halves. It is written from DOC.md alone, so that it can stand against the program.
"""

from functools import lru_cache
from itertools import product

from heirstamps.errors import StampError


# The model by cells.

def cells(share, k):
    """What the share has of each path of k halves: 0 or 1."""
    if not isinstance(share, tuple):
        return [share] * 2 ** k
    return cells(share[0], k - 1) + cells(share[1], k - 1)


def worths(counts, k):
    """The worth of each path of k halves."""
    if not isinstance(counts, tuple):
        return [counts] * 2 ** k
    number, left, right = counts
    return [number + worth for worth in worths(left, k - 1) + worths(right, k - 1)]


def share_of(row):
    """The share with these cells."""
    if len(set(row)) == 1:
        return row[0]
    middle = len(row) // 2
    return (share_of(row[:middle]), share_of(row[middle:]))


def counts_of(row):
    """The counts with these worths."""
    if len(set(row)) == 1:
        return row[0]
    middle = len(row) // 2
    low = min(row)
    rest = [worth - low for worth in row]
    return (low, counts_of(rest[:middle]), counts_of(rest[middle:]))


def paths_of(row):
    """The shortest paths that are owned, ascending, of a share's cells."""
    if all(row):
        return [()]
    if not any(row):
        return []
    middle = len(row) // 2
    left = [(0,) + path for path in paths_of(row[:middle])]
    return left + [(1,) + path for path in paths_of(row[middle:])]


def filled_row(row, worth_row):
    """The worths behind the fill of [9]."""
    if not any(row) or len(set(worth_row)) == 1:
        return list(worth_row)
    if all(row):
        return [max(worth_row)] * len(worth_row)
    middle = len(row) // 2
    left, right = worth_row[:middle], worth_row[middle:]
    if all(row[:middle]):
        right = filled_row(row[middle:], right)
        left = [max(max(left), min(right))] * middle
    elif all(row[middle:]):
        left = filled_row(row[:middle], left)
        right = [max(max(right), min(left))] * middle
    else:
        left = filled_row(row[:middle], left)
        right = filled_row(row[middle:], right)
    return left + right


def part_of(row, path):
    """The entries of a row that a path names."""
    for half in path:
        middle = len(row) // 2
        row = row[middle:] if half else row[:middle]
    return row


def raised_row(row, worth_row):
    """The worths behind a deed, as [9] tells it."""
    full = filled_row(row, worth_row)
    if full != worth_row:
        return full
    prices = []
    for path in paths_of(row):
        begun = [path[:k] for k in range(len(path))]
        fresh = len([1 for short in begun if len(set(part_of(worth_row, short))) == 1])
        prices.append((fresh, len(path), path))
    path = min(prices)[2]
    length = len(worth_row) // 2 ** len(path)
    first = sum(half * (len(worth_row) // 2 ** (at + 1)) for at, half in enumerate(path))
    return [worth + (first <= at < first + length) for at, worth in enumerate(worth_row)]


def tuples_in(tree):
    """How many tuples a tree has."""
    if not isinstance(tree, tuple):
        return 0
    return 1 + sum(tuples_in(part) for part in tree)


# Trees of a wanted size.

def all_shares(k):
    """Each share that is nested at most k deep."""
    return [share_of(list(row)) for row in product((0, 1), repeat=2 ** k)]


def all_counts(k, top):
    """Counts of worths from 0 to top that are nested at most k deep."""
    return [counts_of(list(row)) for row in product(range(top + 1), repeat=2 ** k)]


def chain_share(deep, halves=(0,), end=1):
    """The share of the one path that goes through these halves, again and again."""
    share = end
    for at in reversed(range(deep)):
        share = (0, share) if halves[at % len(halves)] else (share, 0)
    return share


def chain_counts(deep, end=1):
    """Counts nested so deep, along the right halves."""
    counts = end
    for _ in range(deep):
        counts = (0, 0, counts)
    return counts


def full_share(deep, last=(1, 0)):
    """A share with 2 ** deep - 1 tuples; the last one of them may be another one."""
    if deep == 1:
        return last
    return (full_share(deep - 1), full_share(deep - 1, last))


def full_counts(deep, last=(0, 1, 0)):
    """Counts with 2 ** deep - 1 tuples; the last one of them may be another one."""
    if deep == 1:
        return last
    return (0, full_counts(deep - 1), full_counts(deep - 1, last))


# Histories.

class Chance:
    """Numbers that look like chance, and are the same in each run."""

    def __init__(self, seed):
        self.state = seed * 7919 + 1

    def below(self, number):
        """A number from 0 on below this one."""
        self.state = (self.state * 6364136223846793005 + 1442695040888963407) % 2 ** 64
        return (self.state >> 33) % number

    def one_of(self, rows):
        return rows[self.below(len(rows))]


class Model:
    """The copies of a history, with shares and counts by cells."""

    def __init__(self, k):
        self.shares = {0: [1] * 2 ** k}
        self.counts = {0: [0] * 2 ** k}
        self.heard = {0: set()}
        self.next_mark = 1
        self.doers = []
        self.known = []

    def do(self, step):
        name, mark = step[0], step[1]
        if name == "fork":
            kept, given = model_halved(self.shares[mark])
            self.shares[mark], self.shares[self.next_mark] = kept, given
            self.counts[self.next_mark] = self.counts[mark]
            self.heard[self.next_mark] = set(self.heard[mark])
            self.next_mark += 1
        if name == "deed":
            self.counts[mark] = raised_row(self.shares[mark], self.counts[mark])
            self.heard[mark].add(len(self.doers))
            self.doers.append(mark)
            self.known.append(tuple(sorted(self.heard[mark])))
        if name in ("hear", "join"):
            pairs = zip(self.counts[mark], self.counts[step[2]])
            self.counts[mark] = [max(pair) for pair in pairs]
            self.heard[mark] |= self.heard[step[2]]
        if name == "join":
            pairs = zip(self.shares[mark], self.shares[step[2]])
            self.shares[mark] = [one + other for one, other in pairs]
        if name in ("join", "lose"):
            gone = step[-1]
            del self.shares[gone], self.counts[gone], self.heard[gone]


def model_halved(row):
    """The cells of both halved shares."""
    middle = len(row) // 2
    none = [0] * middle
    left, right = row[:middle], row[middle:]
    if all(row) or (any(left) and any(right)):
        return left + none, none + right
    if any(right):
        kept, given = model_halved(right)
        return none + kept, none + given
    kept, given = model_halved(left)
    return kept + none, given + none


def some_history(seed, length, names, k):
    """A history of such steps, as long or shorter, whose shares are nested at most k deep."""
    chance = Chance(seed)
    model = Model(k)
    steps = []
    for _ in range(length):
        there = sorted(model.shares)
        name = chance.one_of(names)
        mark = chance.one_of(there)
        others = [other for other in there if other != mark]
        if name == "fork" and (len(there) == 8 or sum(model.shares[mark]) == 1):
            continue
        if name in ("hear", "join", "lose") and not others:
            continue
        step = (name, mark, chance.one_of(others)) if name in ("hear", "join") else (name, mark)
        model.do(step)
        steps.append(step)
    return tuple(steps), model


@lru_cache(maxsize=None)
def some_histories():
    """Pairs of a history and its model: with few forks and many, with lose and without."""
    plain = ("fork", "fork", "deed", "deed", "deed", "hear", "hear", "join")
    losing = ("fork", "fork", "fork", "deed", "deed", "deed", "hear", "hear", "join", "lose")
    return tuple(some_history(seed, 10 + seed % 50, losing if seed % 2 else plain, 7) for seed in range(120))


# Calls.

def error_of(call, *parts, **named):
    """The error of a call, with its fields; None if it raises none."""
    try:
        call(*parts, **named)
    except StampError as error:
        return (type(error).__name__, vars(error))
    return None


def do_step(live, step):
    """Do a live step."""
    return getattr(live, step[0])(*step[1:])


def live_fields(live):
    """All that can be read of a live history."""
    return tuple(getattr(live, name) for name in ("history", "start", "marks", "next_mark", "depth"))


# Wrong values.

def deep(times, value=0):
    """A tuple nested so deep."""
    for _ in range(times):
        value = (value,)
    return value


def deep_pair(times, value=1):
    """A pair nested so deep."""
    for _ in range(times):
        value = (0, value)
    return value


def strange_values():
    """Values that are no shares, no counts, no marks, no histories, and no texts of shares or counts."""
    return [
        None, True, False, -1, [], [0], [1, 0], [0, 1, 0], ["0"], [("fork", 0)],
        "x", "fork", "None", "a" * 20000, (None,), (True,), (False, True), (True, 0), (0, True), (1, False),
        (True, False), ("0",), ("1", "0"), (1, "0"), (-1, 0), (2, 0), (0, 2), (0, 0), (1, 1), ([], 0), (0, [0, 1]),
        (0, 1, True), (True, 1, 0), (0, True, 0), (0, 0, 0), (0, 1, 1), (0, 2, 2), (0, 1, 2), (-1, 1, 0), (0, -1, 0),
        (0, "1", 0), (0, None, 0), (0, [1], 0), ("0", 1, 0), (1, 0, 2, 0), (1, 0, 1, 2), (None, 0), (0, None),
        ((0, 0), 1), (1, (1, 1)), ((1, 0), (0, 1), 0), (0, 1, (0, 0, 0)), (0, (2, 1, 0), 1), deep(40), deep_pair(13),
        deep_pair(40), (0,) * 2999, tuple([(0, 1)] * 900), [[0]] * 1000, (0, (0, 1, 0), [0]), ((), ()), ("fork", 0),
    ]
