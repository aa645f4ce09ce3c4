"""What a console answers about one live history."""

from heirstamps.counts import counts_text
from heirstamps.futures import least_covers
from heirstamps.live import NarrowLive
from heirstamps.paper_texts import history_text, paper_text
from heirstamps.shares import share_text


def _spaced(values):
    """The texts of values, with blanks between."""
    return " ".join([str(value) for value in values])


def step_command(step):
    """The command of a step."""
    return _spaced(list(step))


def journal_of(live, name):
    """The commands that make an equal live history by this name."""
    first = f"narrow {name} {live.bound}" if isinstance(live, NarrowLive) else f"open {name}"
    return "; ".join([first] + [step_command(step) for step in live.history])


def _covers(live, numbers):
    """Whether the lot of the later marks covers the first copy."""
    lot = tuple(sorted(set(numbers[1:])))
    return "yes" if live.covers(lot, numbers[0]) else "no"


def _stamp(live, mark):
    """The texts of the share and of the counts of the copy."""
    share, counts = live.stamp(mark)
    return share_text(share) + " " + counts_text(counts)


def _standings(live):
    """The numbers of steps behind which all is alike for every future."""
    return _spaced(["=".join([str(number) for number in numbers]) for numbers in live.standings()])


def _paper(live, mark):
    """The text of the paper that shows which least lot covers the copy."""
    return paper_text(("covered", live.history, mark, least_covers(live.history, mark)[0]))


def answer_about(live, word, numbers):
    """The answer to a question, of this word and with these numbers, about a live history; "" where it is empty."""
    if word == "show":
        return history_text(live.history)
    if word == "marks":
        return _spaced(live.marks)
    if word == "newest":
        return _spaced(live.newest())
    if word == "heard":
        return _spaced(live.heard(numbers[0]))
    if word == "stamp":
        return _stamp(live, numbers[0])
    if word == "covers":
        return _covers(live, numbers)
    if word == "standings":
        return _standings(live)
    if word == "where":
        return _spaced([len(live.marks), len(live.history), live.depth])
    return _paper(live, numbers[0])
