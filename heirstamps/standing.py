"""The copies that are there, with their stamps, while the steps of a history are done one by one."""

from heirstamps.counts import joined, raised
from heirstamps.errors import InvalidHistory, TooMany
from heirstamps.hearing import MOST_STEPS, Hearing
from heirstamps.shares import halved, united


class Standing(Hearing):
    """The copies that are there, with their stamps and what they have heard, and the deeds that have been done.

    A step that raises an error of its stamps changes nothing.
    """

    def __init__(self):
        super().__init__()
        self.shares = {0: 1}
        self.counts = {0: 0}

    def stamp_at(self, mark):
        """The stamp of the copy."""
        return (self.shares[mark], self.counts[mark])

    def stamps(self):
        """The list of the stamps of the copies that are there, by their marks ascending."""
        return [self.stamp_at(mark) for mark in sorted(self.shares)]

    def do_fork(self, mark):
        """Let a further copy come, with half the share of this one."""
        kept, given = halved(self.shares[mark])
        self.shares[mark] = kept
        self.shares[self.next_mark] = given
        self.counts[self.next_mark] = self.counts[mark]
        super().do_fork(mark)

    def do_deed(self, mark):
        """Let the copy do the next deed."""
        self.counts[mark] = raised(self.shares[mark], self.counts[mark])
        super().do_deed(mark)

    def do_hear(self, mark, other_mark):
        """Let the first copy hear what the other one has heard."""
        self.counts[mark] = joined(self.counts[mark], self.counts[other_mark])
        super().do_hear(mark, other_mark)

    def do_join(self, mark, other_mark):
        """Let the first copy hear the other one, which goes and leaves it its share."""
        # What joined raises must come ahead of what united raises, and both ahead of any change.
        counts = joined(self.counts[mark], self.counts[other_mark])
        share = united(self.shares[mark], self.shares[other_mark])
        self.shares[mark] = share
        self.counts[mark] = counts
        super().do_join(mark, other_mark)

    def do_lose(self, mark):
        """Let the copy go, with its share."""
        del self.shares[mark]
        del self.counts[mark]
        super().do_lose(mark)


def standing_behind(history):
    """The standing behind a history; InvalidHistory(index) if the value is none."""
    if type(history) is not tuple:
        raise InvalidHistory(0)
    standing = Standing()
    for at, step in enumerate(history[:MOST_STEPS]):
        if not standing.allows(step):
            raise InvalidHistory(at)
        try:
            standing.do(step)
        except TooMany:
            raise InvalidHistory(at) from None
    if len(history) > MOST_STEPS:
        raise InvalidHistory(MOST_STEPS)
    return standing


def stamps_along(history):
    """The list that has, behind 0, 1, .. steps, the list of the stamps of all copies; the error of standing_behind."""
    standing_behind(history)
    standing = Standing()
    found = [standing.stamps()]
    for step in history:
        standing.do(step)
        found.append(standing.stamps())
    return found
