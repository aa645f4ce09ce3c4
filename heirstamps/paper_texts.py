"""Texts of histories, and of papers, which show something of histories."""

from heirstamps.errors import InvalidPaper, NotShown
from heirstamps.papers import paper_fault, take_history, take_paper
from heirstamps.reader import Reader
from heirstamps.standing import standing_behind

PAPER_SIZES = {"covered": 4, "apart": 4, "unlike": 5}


def history_text(history):
    """The text of a history."""
    standing_behind(history)
    return _history_text(history)


def _history_text(history):
    """The text of what is surely a history."""
    return ",".join([step[0][0] + _dotted(step[1:]) for step in history])


def _dotted(lot):
    """The digits of marks, with dots between."""
    return ".".join([str(mark) for mark in lot])


def history_told(text):
    """The history with this text."""
    reader = Reader(text)
    history = take_history(reader)
    reader.finish()
    standing_behind(history)
    return history


def is_paper(value):
    """Whether a value is a paper."""
    if type(value) is not tuple or len(value) == 0 or type(value[0]) is not str:
        return False
    return PAPER_SIZES.get(value[0], 0) == len(value) and paper_fault(value) is None


def paper_text(value):
    """The text of a paper."""
    if not is_paper(value):
        raise InvalidPaper("not a paper")
    word = value[0]
    parts = [word[0], _history_text(value[1])]
    if word == "covered":
        parts += [str(value[2]), _dotted(value[3])]
    elif word == "apart":
        parts += [str(value[2]), str(value[3])]
    else:
        parts += [_history_text(value[2]), _dotted(value[3]), str(value[4])]
    return ";".join(parts)


def paper_told(text):
    """The paper with this text."""
    reader = Reader(text)
    paper = take_paper(reader)
    reader.finish()
    fault = paper_fault(paper)
    if fault is not None:
        raise NotShown(fault)
    return paper
