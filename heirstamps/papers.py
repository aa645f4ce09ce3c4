"""Papers: what they show of histories, and the forms of their texts."""

from heirstamps.futures import are_even, covers_copy, heard_masks
from heirstamps.hearing import MOST_STEPS
from heirstamps.histories import is_history
from heirstamps.lots import is_lot_within
from heirstamps.standing import standing_behind

STEP_NAMES = {"f": "fork", "d": "deed", "h": "hear", "j": "join", "l": "lose"}
GREATEST_NUMBER = 60


def take_history(reader):
    """Go past the form of a history, and return the tuple of its steps."""
    steps = []
    if reader.sees("fdhjl"):
        steps.append(_take_step(reader))
    while 0 < len(steps) < MOST_STEPS and reader.sees(","):
        reader.take(",")
        steps.append(_take_step(reader))
    return tuple(steps)


def _take_step(reader):
    """Go past the form of a step."""
    name = STEP_NAMES[reader.take("fdhjl")]
    mark = reader.take_within(0, GREATEST_NUMBER)
    if name != "hear" and name != "join":
        return (name, mark)
    reader.take(".")
    return (name, mark, reader.take_within(0, GREATEST_NUMBER))


def _take_lot(reader):
    """Go past the form of a lot of one mark or more."""
    lot = [reader.take_within(0, GREATEST_NUMBER)]
    while lot[-1] < GREATEST_NUMBER and reader.sees("."):
        reader.take(".")
        lot.append(reader.take_within(lot[-1] + 1, GREATEST_NUMBER))
    return tuple(lot)


def take_paper(reader):
    """Go past the form of a paper, and return the tuple of its parts."""
    letter = reader.take("cau")
    reader.take(";")
    history = take_history(reader)
    reader.take(";")
    if letter == "c":
        mark = reader.take_within(0, GREATEST_NUMBER)
        reader.take(";")
        return ("covered", history, mark, _take_lot(reader))
    if letter == "a":
        one = reader.take_within(0, GREATEST_NUMBER - 1)
        reader.take(";")
        return ("apart", history, one, reader.take_within(one + 1, GREATEST_NUMBER))
    other_history = take_history(reader)
    reader.take(";")
    lot = _take_lot(reader)
    reader.take(";")
    return ("unlike", history, other_history, lot, reader.take_within(0, GREATEST_NUMBER))


def paper_fault(value):
    """None of a paper; of another tuple of as many parts as the paper of its word what NotShown tells of it."""
    if value[0] == "covered":
        return _covered_fault(value[1], value[2], value[3])
    if value[0] == "apart":
        return _apart_fault(value[1], value[2], value[3])
    return _unlike_fault(value[1], value[2], value[3], value[4])


def _are_there(standing, lot, mark):
    """Whether values are a lot of one copy or more, and the mark of a copy, that are there."""
    return standing.has(mark) and lot != () and is_lot_within(lot, list(standing.heard_by))


def _covered_fault(history, mark, lot):
    """What paper_fault tells of a covered paper."""
    if not is_history(history):
        return 0
    standing = standing_behind(history)
    if not _are_there(standing, lot, mark):
        return 2
    return None if covers_copy(heard_masks(standing), lot, mark) else 3


def _apart_fault(history, one, other):
    """What paper_fault tells of an apart paper."""
    if not is_history(history):
        return 0
    known = standing_behind(history).known
    if not all([type(deed) is int and 0 <= deed < len(known) for deed in (one, other)]):
        return 2
    # No deed knows a later one.
    return None if one < other and one not in known[other] else 3


def _unlike_fault(history, other_history, lot, mark):
    """What paper_fault tells of an unlike paper."""
    if not is_history(history):
        return 0
    if not is_history(other_history):
        return 1
    standing = standing_behind(history)
    other_standing = standing_behind(other_history)
    if not are_even(standing, other_standing) or not _are_there(standing, lot, mark):
        return 2
    covered = covers_copy(heard_masks(standing), lot, mark)
    return None if covered != covers_copy(heard_masks(other_standing), lot, mark) else 3
