"""Live copies: histories that live steps make longer, and that can be taken back."""

from heirstamps.errors import InvalidCount, InvalidLot, InvalidSteps, NoSpan, NothingToUndo, StampError
from heirstamps.going_on import alike_numbers, check_narrow, standing_with
from heirstamps.hearing import is_step_form
from heirstamps.histories import check_mark
from heirstamps.lots import is_lot_within
from heirstamps.standing import standing_behind
from heirstamps.worths import greater_of, nowhere_greater

GREATEST_BOUND = 126


class Live:
    """A history that live steps make longer.

    To be read are history, start, marks, next_mark and depth.
    """

    def __init__(self, history):
        standing = standing_behind(history)
        self.start = history
        self.depth = 0
        # For each open span, the outermost one first, the number of steps that the history had at its beginning.
        self._spans = []
        self._stand(history, standing)

    def _stand(self, history, standing):
        """Take on a history, and the standing behind it."""
        self.history = history
        self.marks = tuple(sorted(standing.shares))
        self.next_mark = standing.next_mark

    def _go_on(self, step):
        """Do a live step, and return the standing behind it."""
        standing = standing_with(self.history, step)
        self._stand(self.history + (step,), standing)
        return standing

    def fork(self, mark):
        """Let a further copy come, and return its mark."""
        further_mark = self.next_mark
        self._go_on(("fork", mark))
        return further_mark

    def deed(self, mark):
        """Let the copy do a deed, and return its number."""
        return len(self._go_on(("deed", mark)).doers) - 1

    def hear(self, mark, other_mark):
        """Let the first copy hear the other one."""
        self._go_on(("hear", mark, other_mark))

    def join(self, mark, other_mark):
        """Let the first copy hear the other one, which goes and leaves it its share."""
        self._go_on(("join", mark, other_mark))

    def lose(self, mark):
        """Let the copy go, with its share."""
        self._go_on(("lose", mark))

    def stamp(self, mark):
        """The stamp of the copy."""
        standing = standing_behind(self.history)
        check_mark(standing, mark)
        return standing.stamp_at(mark)

    def heard(self, mark):
        """The lot of the deeds that the copy has heard."""
        standing = standing_behind(self.history)
        check_mark(standing, mark)
        return standing.heard_by[mark]

    def covers(self, lot, mark):
        """Whether the counts of the copy are within those of the lot joined."""
        standing = standing_behind(self.history)
        if not is_lot_within(lot, self.marks):
            raise InvalidLot("not a lot of marks of copies that are there")
        check_mark(standing, mark)
        together = 0
        for member in lot:
            together = greater_of(together, standing.counts[member])
        return nowhere_greater(standing.counts[mark], together)

    def newest(self):
        """The lot of the copies whose counts are within no others but the same ones."""
        counts = standing_behind(self.history).counts
        behind = [mark for mark in self.marks
                  if any([counts[mark] != later and nowhere_greater(counts[mark], later) for later in counts.values()])]
        return tuple([mark for mark in self.marks if mark not in behind])

    def standings(self):
        """The ascending list of the tuples of numbers of live steps behind which all is alike for every future."""
        return alike_numbers(self.start, self.history[len(self.start):])

    def would(self, step):
        """The marks that would be there behind a live step, and the stamp of its first copy (None behind lose)."""
        if not is_step_form(step):
            raise InvalidSteps(0)
        standing = standing_with(self.history, step)
        stamp = None if step[0] == "lose" else standing.stamp_at(step[1])
        return (tuple(sorted(standing.shares)), stamp)

    def undo(self):
        """Take the last live step back, and return it."""
        if len(self.history) == max([len(self.start)] + self._spans):
            raise NothingToUndo("no live step can be taken back")
        step = self.history[-1]
        self._go_back(len(self.history) - 1)
        return step

    def _go_back(self, length):
        """Take back all but so many steps."""
        history = self.history[:length]
        self._stand(history, standing_behind(history))

    def begin(self):
        """Open a span."""
        self._spans.append(len(self.history))
        self.depth += 1

    def _end_span(self):
        """End the innermost open span, and return the number of steps at its beginning."""
        if self.depth == 0:
            raise NoSpan("no span is open")
        self.depth -= 1
        return self._spans.pop()

    def keep(self):
        """End the innermost open span, and leave its steps to the one around it."""
        self._end_span()

    def drop(self):
        """End the innermost open span, and take its steps back."""
        self._go_back(self._end_span())

    def twin(self):
        """An independent one with equal start and history, and no span."""
        other = Live(self.start)
        other._stand(self.history, standing_behind(self.history))
        return other

    def spanned_twin(self):
        """A twin with the same open spans."""
        other = self.twin()
        other._spans = list(self._spans)
        other.depth = self.depth
        return other

    def __eq__(self, other):
        return type(other) is Live and self.start == other.start and self.history == other.history


class NarrowLive(Live):
    """A live history in which no copy has a stamp of a greater size than its bound."""

    def __init__(self, history, bound):
        super().__init__(history)
        if type(bound) is not int or bound < 1 or bound > GREATEST_BOUND:
            raise InvalidCount("not an integer from 1 to 126")
        check_narrow(standing_behind(history), bound)
        self.bound = bound

    def _check_step(self, step):
        """Raise NotNarrow(lot) if the step would make stamps too great; the other errors of the step come first."""
        check_narrow(standing_with(self.history, step), self.bound)

    def fork(self, mark):
        """Let a further copy come, and return its mark."""
        self._check_step(("fork", mark))
        return super().fork(mark)

    def deed(self, mark):
        """Let the copy do a deed, and return its number."""
        self._check_step(("deed", mark))
        return super().deed(mark)

    def hear(self, mark, other_mark):
        """Let the first copy hear the other one."""
        self._check_step(("hear", mark, other_mark))
        super().hear(mark, other_mark)

    def join(self, mark, other_mark):
        """Let the first copy hear the other one, which goes and leaves it its share."""
        self._check_step(("join", mark, other_mark))
        super().join(mark, other_mark)

    def lose(self, mark):
        """Let the copy go, with its share."""
        self._check_step(("lose", mark))
        super().lose(mark)

    def would(self, step):
        """The marks that would be there behind a live step, and the stamp of its first copy (None behind lose)."""
        told = super().would(step)
        self._check_step(step)
        return told

    def twin(self):
        """An independent one with equal start, bound and history, and no span."""
        other = NarrowLive(self.start, self.bound)
        other._stand(self.history, standing_behind(self.history))
        return other

    def __eq__(self, other):
        return (type(other) is NarrowLive and self.bound == other.bound
                and self.start == other.start and self.history == other.history)


def do_live_step(live, step):
    """Do a step that has the form of one, and return what its method returns."""
    if step[0] == "fork":
        return live.fork(step[1])
    if step[0] == "deed":
        return live.deed(step[1])
    if step[0] == "hear":
        return live.hear(step[1], step[2])
    if step[0] == "join":
        return live.join(step[1], step[2])
    return live.lose(step[1])


def replay(history, steps, *, bound=None):
    """A live history (a narrow one, unless the bound is None) with these live steps."""
    live = Live(history) if bound is None else NarrowLive(history, bound)
    if type(steps) is not list:
        raise InvalidSteps(0)
    for at, step in enumerate(steps):
        if not is_step_form(step):
            raise InvalidSteps(at)
        try:
            do_live_step(live, step)
        except StampError:
            raise InvalidSteps(at) from None
    return live
