"""What one step more makes of a history: the standing behind it, or the error that bars it."""

from heirstamps.errors import InvalidMark, NotNarrow, Refused, TooMany
from heirstamps.futures import cover_sign
from heirstamps.hearing import MOST_COPIES, MOST_STEPS, Hearing, hearing_behind
from heirstamps.sizes import size_of_stamp
from heirstamps.standing import standing_behind


def standing_with(history, step):
    """The standing behind a history and a step that has the form of one; the errors of a live step."""
    standing = standing_behind(history)
    if not all([standing.has(mark) for mark in step[1:]]):
        raise InvalidMark("not the mark of a copy that is there")
    if len(step) == 3 and step[1] == step[2]:
        raise InvalidMark("the same mark twice")
    if len(history) == MOST_STEPS:
        raise TooMany(MOST_STEPS)
    if step[0] == "fork" and len(standing.shares) == MOST_COPIES:
        raise TooMany(MOST_COPIES)
    if step[0] == "lose" and len(standing.shares) == 1:
        raise Refused("the only copy cannot go")
    standing.do(step)
    return standing


def check_narrow(standing, bound):
    """Raise NotNarrow(lot) if some copies have stamps of a size above the bound."""
    wide = [mark for mark in standing.shares if size_of_stamp(standing.stamp_at(mark)) > bound]
    if wide:
        raise NotNarrow(tuple(sorted(wide)))


def alike_numbers(start, steps):
    """The ascending list of the ascending tuples of numbers of steps behind which all is alike for every future."""
    hearing = hearing_behind(Hearing(), start)
    found = {cover_sign(hearing): [0]}
    for at, step in enumerate(steps):
        hearing.do(step)
        found.setdefault(cover_sign(hearing), []).append(at + 1)
    # Each tuple comes in with its least number, so they are ascending.
    return [tuple(numbers) for numbers in found.values()]
