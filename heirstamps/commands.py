"""The form of the commands of a console."""

from heirstamps.errors import InvalidCommand
from heirstamps.reader import DIGITS

LETTERS = "abcdefghijklmnopqrstuvwxyz"
MOST_LETTERS = 8
MOST_COMMAND_DIGITS = 4
RUN = "run "

# What stands behind the first word of each command; covers, which has no bound, is looked at by itself.
FORMS = {
    "open": ("name",), "narrow": ("name", "number"), "use": ("name",), "twin": ("name",), "forget": ("name",),
    "same": ("name",),
    "fork": ("number",), "deed": ("number",), "hear": ("number", "number"), "join": ("number", "number"),
    "lose": ("number",), "undo": (), "begin": (), "keep": (), "drop": (),
    "show": (), "marks": (), "newest": (), "heard": ("number",), "stamp": ("number",), "standings": (), "where": (),
    "paper": ("number",), "journal": (),
}


def _is_name(word):
    """Whether a word is a name."""
    return 0 < len(word) <= MOST_LETTERS and all([sign in LETTERS for sign in word])


def _is_number(word):
    """Whether a word is a number."""
    if not 0 < len(word) <= MOST_COMMAND_DIGITS or not all([sign in DIGITS for sign in word]):
        return False
    return word == "0" or word[0] != "0"


def _is_of(word, kind):
    """Whether a word is of a kind that forms tell."""
    return _is_name(word) if kind == "name" else _is_number(word)


def _is_one_command(words):
    """Whether the words are those of a command that is no run."""
    if words[0] == "covers":
        return len(words) >= 3 and all([_is_number(word) for word in words[1:]])
    if words[0] not in FORMS or len(words) != len(FORMS[words[0]]) + 1:
        return False
    return all([_is_of(word, kind) for word, kind in zip(words[1:], FORMS[words[0]])])


def is_run(command):
    """Whether what is surely a command is a run."""
    return command.startswith(RUN)


def words_of(value):
    """The list of the lists of words of all commands of a run, or of the one command; InvalidCommand if it is none."""
    if type(value) is not str:
        raise InvalidCommand("not a string")
    texts = value[len(RUN):].split("; ") if is_run(value) else [value]
    commands = [text.split(" ") for text in texts]
    if not all([_is_one_command(words) for words in commands]):
        raise InvalidCommand("not a command")
    return commands
