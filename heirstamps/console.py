"""A console: live histories that stand by names, and commands for them."""

from heirstamps.commands import is_run, words_of
from heirstamps.errors import NotReady
from heirstamps.hearing import STEP_SIZES
from heirstamps.live import Live, NarrowLive, do_live_step
from heirstamps.questions import answer_about, journal_of, step_command


class Console:
    """Live histories by their names, one of which is chosen."""

    def __init__(self):
        self._lives = {}
        # None while no one is chosen.
        self._chosen = None

    def execute(self, command):
        """Execute a command, and return the answer."""
        commands = words_of(command)
        if not is_run(command):
            return self._answer(commands[0])
        # All is done by another console first, so that an error leaves nothing behind.
        trial = self._copied()
        answers = [trial._answer(words) for words in commands]
        self._lives = trial._lives
        self._chosen = trial._chosen
        return "; ".join(answers)

    def _copied(self):
        """Another console that holds the same, of its own."""
        other = Console()
        other._lives = {name: self._lives[name].spanned_twin() for name in self._lives}
        other._chosen = self._chosen
        return other

    def _answer(self, words):
        """The answer to the command with these words, which is no run."""
        if words[0] in ("open", "narrow", "use", "forget"):
            self._set_names(words)
            return "ok"
        if self._chosen is None:
            raise NotReady("no live history is chosen")
        live = self._lives[self._chosen]
        if words[0] == "twin":
            self._lives[words[1]] = live.twin()
            return "ok"
        if words[0] == "same":
            return "yes" if live == self._standing_by(words[1]) else "no"
        if words[0] == "journal":
            return journal_of(live, self._chosen)
        numbers = [int(word) for word in words[1:]]
        if words[0] in STEP_SIZES:
            told = do_live_step(live, (words[0],) + tuple(numbers))
            return "ok" if told is None else str(told)
        if words[0] in ("undo", "begin", "keep", "drop"):
            return _take_back(live, words[0])
        told = answer_about(live, words[0], numbers)
        return told if told != "" else "none"

    def _set_names(self, words):
        """Let a new live history stand by the name, choose the one by it, or forget it."""
        name = words[1]
        if words[0] == "open":
            self._lives[name] = Live(())
        elif words[0] == "narrow":
            self._lives[name] = NarrowLive((), int(words[2]))
        else:
            self._standing_by(name)
        if words[0] != "forget":
            self._chosen = name
            return
        del self._lives[name]
        if self._chosen == name:
            self._chosen = None

    def _standing_by(self, name):
        """The live history that stands by the name."""
        if name not in self._lives:
            raise NotReady("none stands by this name")
        return self._lives[name]


def _take_back(live, word):
    """The answer to undo, or to a command about spans."""
    if word == "undo":
        return step_command(live.undo())
    if word == "begin":
        live.begin()
    elif word == "keep":
        live.keep()
    else:
        live.drop()
    return "ok"
