"""The copies that are there while the steps of a history are done one by one."""

from heirstamps.counts import joined, raised
from heirstamps.errors import InvalidHistory, TooMany
from heirstamps.shares import halved, united

MOST_COPIES = 8
MOST_STEPS = 60
STEP_SIZES = {"fork": 2, "deed": 2, "hear": 3, "join": 3, "lose": 2}


def is_step_form(value):
    """Whether a value is a tuple of the name of a step and as many values as it has marks."""
    if type(value) is not tuple or len(value) == 0 or type(value[0]) is not str:
        return False
    return STEP_SIZES.get(value[0], 0) == len(value)


def _either(lot, other_lot):
    """The lot of what is in one of two lots or in both."""
    return tuple(sorted(set(lot + other_lot)))


class Standing:
    """The copies that are there, by their marks, and the deeds that have been done.

    Of deeds that are done, doers has the marks of their copies, and known what these had heard then.
    A step that raises an error of its stamps changes nothing.
    """

    def __init__(self):
        self.shares = {0: 1}
        self.counts = {0: 0}
        self.heard = {0: ()}
        self.next_mark = 1
        self.doers = []
        self.known = []

    def has(self, mark):
        """Whether a value is the mark of a copy that is there."""
        return type(mark) is int and mark in self.shares

    def allows(self, step):
        """Whether a value is a step that can be done, as far as its stamps are within their bounds."""
        if not is_step_form(step) or not all([self.has(mark) for mark in step[1:]]):
            return False
        if step[0] == "fork":
            return len(self.shares) < MOST_COPIES
        if step[0] == "lose":
            return len(self.shares) > 1
        return len(step) == 2 or step[1] != step[2]

    def do(self, step):
        """Do a step that is allowed."""
        if step[0] == "fork":
            self.do_fork(step[1])
        elif step[0] == "deed":
            self.do_deed(step[1])
        elif step[0] == "hear":
            self.do_hear(step[1], step[2])
        elif step[0] == "join":
            self.do_join(step[1], step[2])
        else:
            self.do_lose(step[1])

    def do_fork(self, mark):
        """Let a further copy come, with half the share of this one."""
        kept, given = halved(self.shares[mark])
        self.shares[mark] = kept
        self.shares[self.next_mark] = given
        self.counts[self.next_mark] = self.counts[mark]
        self.heard[self.next_mark] = self.heard[mark]
        self.next_mark += 1

    def do_deed(self, mark):
        """Let the copy do the next deed."""
        self.counts[mark] = raised(self.shares[mark], self.counts[mark])
        self.heard[mark] = self.heard[mark] + (len(self.doers),)
        self.doers.append(mark)
        self.known.append(self.heard[mark])

    def do_hear(self, mark, other_mark):
        """Let the first copy hear what the other one has heard."""
        self.counts[mark] = joined(self.counts[mark], self.counts[other_mark])
        self.heard[mark] = _either(self.heard[mark], self.heard[other_mark])

    def do_join(self, mark, other_mark):
        """Let the first copy hear the other one, which goes and leaves it its share."""
        # What joined raises must come ahead of what united raises, and both ahead of any change.
        counts = joined(self.counts[mark], self.counts[other_mark])
        share = united(self.shares[mark], self.shares[other_mark])
        self.shares[mark] = share
        self.counts[mark] = counts
        self.heard[mark] = _either(self.heard[mark], self.heard[other_mark])
        self.do_lose(other_mark)

    def do_lose(self, mark):
        """Let the copy go, with its share."""
        del self.shares[mark]
        del self.counts[mark]
        del self.heard[mark]


def standing_behind(history):
    """The standing behind a history; InvalidHistory(index) if the value is none."""
    if type(history) is not tuple:
        raise InvalidHistory(0)
    standing = Standing()
    for at, step in enumerate(history[:MOST_STEPS]):
        if not standing.allows(step):
            raise InvalidHistory(at)
        try:
            standing.do(step)
        except TooMany:
            raise InvalidHistory(at) from None
    if len(history) > MOST_STEPS:
        raise InvalidHistory(MOST_STEPS)
    return standing
