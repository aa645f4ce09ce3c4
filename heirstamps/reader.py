"""Going through a text from the left, as far as it can be the text of something."""

from heirstamps.errors import InvalidText
from heirstamps.trees import DEEPEST, MOST_TUPLES

DIGITS = "0123456789"
MOST_DIGITS = 90


class Reader:
    """A text that is taken sign by sign.

    Each sign is refused where no text of the kind that is read goes on with it.
    So at is, in each error, as many signs as such a text can begin with.
    """

    def __init__(self, text):
        if type(text) is not str:
            raise InvalidText(0)
        self.text = text
        self.at = 0
        self.depth = 0
        self.tuples = 0

    def sees(self, signs):
        """Whether the next sign is one of these."""
        ahead = self.text[self.at:self.at + 1]
        return ahead != "" and ahead in signs

    def take(self, signs):
        """Go past the next sign, which must be one of these, and return it."""
        if not self.sees(signs):
            raise InvalidText(self.at)
        self.at += 1
        return self.text[self.at - 1]

    def take_number(self, firsts):
        """Go past a number that begins with one of these digits, and return it."""
        digits = self.take(firsts)
        while digits != "0" and len(digits) < MOST_DIGITS and self.sees(DIGITS):
            digits += self.take(DIGITS)
        return int(digits)

    def take_within(self, low, high):
        """Go past one of the numbers from low to high, without needless zeros, and return it."""
        texts = [str(number) for number in range(low, high + 1)]
        digits = ""
        while any([text.startswith(digits) and self.sees(text[len(digits):len(digits) + 1]) for text in texts]):
            digits += self.take(DIGITS)
        if digits not in texts:
            raise InvalidText(self.at)
        return int(digits)

    def begin_tuple(self):
        """Go into a tuple, if the bounds leave room for one more."""
        # What is begun can always be ended without further tuples, so room for this one is enough.
        if self.depth == DEEPEST or self.tuples == MOST_TUPLES:
            raise InvalidText(self.at)
        self.take("(")
        self.depth += 1
        self.tuples += 1

    def end_tuple(self):
        """Go out of a tuple."""
        self.take(")")
        self.depth -= 1

    def finish(self):
        """Refuse what is left of the text."""
        if self.at < len(self.text):
            raise InvalidText(self.at)
