"""[34]: texts of histories, and papers."""

import re
import unittest
from itertools import product

from heirstamps.chains import are_apart
from heirstamps.errors import InvalidHistory, InvalidPaper, InvalidText, NotShown
from heirstamps.futures import are_alike
from heirstamps.histories import deeds, heard, is_history, marks
from heirstamps.paper_texts import history_text, history_told, is_paper, paper_text, paper_told
from tests.plain import all_lots, steps_of
from tests.support import Chance, error_of, some_histories, some_history, strange_values

FORK = ("fork", 0)
BOTH = (FORK, ("deed", 0), ("deed", 1))
HEARD = (FORK, ("deed", 0), ("hear", 1, 0))
NUMBER = "(?:60|[1-5][0-9]|[0-9])"
STEP = f"(?:[fdl]{NUMBER}|[hj]{NUMBER}[.]{NUMBER})"


# The forms, by patterns.

def is_history_form(text):
    """Whether a text is the form of a history."""
    return text == "" or re.fullmatch(f"{STEP}(?:,{STEP}){{0,59}}", text) is not None


def is_number_form(text):
    return re.fullmatch(NUMBER, text) is not None


def is_lot_form(text):
    """Whether a text is the form of a lot of one mark or more."""
    words = text.split(".")
    if not all(map(is_number_form, words)):
        return False
    return all(int(one) < int(other) for one, other in zip(words, words[1:]))


def is_paper_form(text):
    """Whether a text is the form of a paper."""
    letter, *parts = text.split(";")
    if letter == "c" and len(parts) == 3:
        return is_history_form(parts[0]) and is_number_form(parts[1]) and is_lot_form(parts[2])
    if letter == "a" and len(parts) == 3:
        return is_history_form(parts[0]) and all(map(is_number_form, parts[1:])) and int(parts[1]) < int(parts[2])
    if letter == "u" and len(parts) == 4:
        return all(map(is_history_form, parts[:2])) and is_lot_form(parts[2]) and is_number_form(parts[3])
    return False


ENDS = [one + other for one in ["", "f0", ".0", ".60", "0.0", "60", "c", "0;0.60"] + list("0123456789")
        for other in ("", ";0", ";60", ";0;0", ";0;60", ";;0;0", ";;0;60", ";;;0;0", ";0;0;0")]


def index_of(text, is_form):
    """The greatest number such that some form begins with so many first characters of the text."""
    begun = [count for count in range(len(text) + 1) if any(is_form(text[:count] + end) for end in ENDS)]
    return max(begun)


def plain_text(history):
    """The text of a history, step by step."""
    return ",".join(step[0][0] + ".".join(map(str, step[1:])) for step in history)


def bent(text, chance):
    """A text that is another one in a character or two."""
    for _ in range(1 + chance.below(2)):
        at = chance.below(len(text) + 1)
        sign = chance.one_of("fdhjlcau0123456789.,;; x")
        text = chance.one_of((text[:at] + sign + text[at:], text[:at] + sign + text[at + 1:], text[:at] + text[at + 1:],
                              text[:at]))
    return text


def some_even(seed):
    """A history of three copies."""
    chance = Chance(seed)
    steps = [FORK, ("fork", 1)]
    for _ in range(6):
        one, other = chance.below(3), chance.below(3)
        steps.append(("deed", one) if one == other else ("hear", one, other))
    return tuple(steps)


class HistoryTexts(unittest.TestCase):

    def test_small_ones(self):
        self.assertEqual(history_text(()), "")
        self.assertEqual(history_told(""), ())
        self.assertEqual(history_text((FORK, ("hear", 1, 0))), "f0,h1.0")
        self.assertEqual(history_told("f0,d1,j0.1"), (FORK, ("deed", 1), ("join", 0, 1)))
        self.assertEqual(history_text((FORK, ("lose", 0), ("deed", 1))), "f0,l0,d1")

    def test_marks_of_two_digits(self):
        history = tuple(step for mark in range(1, 12) for step in (FORK, ("lose", mark))) + (FORK, ("hear", 12, 0))
        self.assertTrue(is_history(history))
        self.assertEqual(history_text(history)[-9:], ",f0,h12.0")
        self.assertEqual(history_told(history_text(history)), history)

    def test_all_small_histories(self):
        now = [((), (0,), 1)]
        count = 0
        for _ in range(4):
            later = []
            for history, there, next_mark in now:
                for step in steps_of(there, ("fork", "deed", "hear", "join", "lose")):
                    if step[0] == "lose" and len(there) == 1:
                        continue
                    behind = there + (next_mark,) if step[0] == "fork" else there
                    behind = tuple(mark for mark in behind if step[0] not in ("join", "lose") or mark != step[-1])
                    later.append((history + (step,), behind, next_mark + (step[0] == "fork")))
            now = later
            for history, _, _ in now:
                self.assertEqual(history_text(history), plain_text(history))
                self.assertEqual(history_told(plain_text(history)), history)
                count += 1
        self.assertGreater(count, 500)

    def test_long_ones(self):
        for history, _ in some_histories():
            text = history_text(history)
            self.assertEqual(text, plain_text(history))
            self.assertEqual(history_told(text), history)

    def test_wrong_histories(self):
        for value, index in ((None, 0), ([], 0), ("f0", 0), ((FORK, ("hear", 1, 1)), 1), ((FORK,) * 8, 7),
                             ((("deed", 0),) * 61, 60)):
            self.assertEqual(error_of(history_text, value), ("InvalidHistory", {"index": index}))


class FormsOfHistories(unittest.TestCase):

    def look(self, text, index):
        self.assertEqual(error_of(history_told, text), ("InvalidText", {"index": index}))

    def test_texts_that_only_end_too_early(self):
        for text in ("f", "d", "f0,", "h0", "h0.", "j12", "j12.", "l", "f0,d1,h", "f0,h60.", "h6", "j5"):
            self.look(text, len(text))

    def test_no_steps(self):
        for text, index in ((" ", 0), ("x", 0), (",", 0), ("F0", 0), ("0", 0), ("f0 ", 2), ("f0,,", 3), ("f0, d0", 3),
                            ("fork", 1), ("f0.1", 2), ("h0,1", 2), ("h0.1.2", 4), ("f0;", 2), ("f-1", 1), ("f+1", 1),
                            ("\n", 0), ("f0\n", 2), ("h.1", 1), ("(f0)", 0), ("x" * 20000, 0)):
            self.look(text, index)

    def test_numbers(self):
        for text, index in (("f00", 2), ("f01", 2), ("f61", 2), ("f60", None), ("f600", 3), ("f7", None), ("f70", 2),
                            ("f9", None), ("f99", 2), ("f59", None), ("d100", 3), ("h00.1", 2), ("h1.00", 4),
                            ("h1.61", 4), ("h61.1", 2), ("h60.60", None), ("f0,d61", 5), ("f0,d1" + "0" * 90, 6)):
            if index is None:
                self.assertEqual(error_of(history_told, text)[0], "InvalidHistory")
            else:
                self.look(text, index)

    def test_sixty_steps_and_one_more(self):
        text = ",".join(["d0"] * 60)
        self.assertEqual(history_told(text), (("deed", 0),) * 60)
        self.look(text + ",", len(text))
        self.look(text + ",d0", len(text))
        self.look(text + "x", len(text))
        self.look(",".join(["d0"] * 59) + ",", 59 * 3)
        # Which steps they are, is not looked at ahead of the form.
        self.look(",".join(["l9"] * 60) + ",", len(text))

    def test_histories_that_are_none(self):
        for text, index in (("f1", 0), ("f0,d2", 1), ("f0,h1.1", 1), ("j0.0", 0), ("f0,f0,l1,d1", 3), ("l0", 0),
                            ("f0,f0,f0,f0,f0,f0,f0,f0", 7), ("d60", 0), ("f0,h0.60", 1), ("f0,l0,l1", 2)):
            self.assertEqual(error_of(history_told, text), ("InvalidHistory", {"index": index}))
        # The form comes first.
        self.look("f1,x", 3)
        self.look("f9,d", 4)

    def test_against_patterns(self):
        told = {}
        for seed in range(250):
            chance = Chance(seed)
            text = bent(plain_text(some_history(seed, 1 + chance.below(8), ("fork", "deed", "hear", "join"), 6)[0]),
                        chance)
            error = error_of(history_told, text)
            if is_history_form(text):
                self.assertIn(None if error is None else error[0], (None, "InvalidHistory"))
            else:
                self.assertEqual(error, ("InvalidText", {"index": index_of(text, is_history_form)}))
            told[error and error[0]] = told.get(error and error[0], 0) + 1
        self.assertGreater(min(told.values()), 9)

    def test_short_texts_against_patterns(self):
        for length in range(5):
            for signs in product("fh06.,", repeat=length):
                text = "".join(signs)
                if not is_history_form(text):
                    self.look(text, index_of(text, is_history_form))

    def test_no_strings(self):
        for value in [value for value in strange_values() if not isinstance(value, str)] + [0, 5, (), ["f0"], ("f0",)]:
            self.look(value, 0)
            self.assertEqual(error_of(paper_told, value), ("InvalidText", {"index": 0}))


PAPERS = (
    (("covered", HEARD, 0, (1,)), "c;f0,d0,h1.0;0;1"),
    (("covered", (), 0, (0,)), "c;;0;0"),
    (("covered", BOTH, 1, (0, 1)), "c;f0,d0,d1;1;0.1"),
    (("covered", (FORK,), 1, (0,)), "c;f0;1;0"),
    (("apart", BOTH, 0, 1), "a;f0,d0,d1;0;1"),
    (("apart", BOTH + (("deed", 0),), 1, 2), "a;f0,d0,d1,d0;1;2"),
    (("unlike", BOTH[:2], (FORK,), (1,), 0), "u;f0,d0;f0;1;0"),
    (("unlike", (FORK,), BOTH[:2], (1,), 0), "u;f0;f0,d0;1;0"),
    (("unlike", BOTH, HEARD, (1,), 0), "u;f0,d0,d1;f0,d0,h1.0;1;0"),
)


class Papers(unittest.TestCase):

    def test_texts(self):
        for paper, text in PAPERS:
            with self.subTest(text):
                self.assertIs(is_paper(paper), True)
                self.assertEqual(paper_text(paper), text)
                self.assertEqual(paper_told(text), paper)

    def test_no_papers(self):
        for value in (
                (), ("covered",), ("covered", HEARD, 0), ("covered", HEARD, 0, (1,), 0), ["covered", HEARD, 0, (1,)],
                ("Covered", HEARD, 0, (1,)), ("c", HEARD, 0, (1,)), (None, HEARD, 0, (1,)), ("", HEARD, 0, (1,)),
                ("covered", HEARD, 0, ()), ("covered", (), 0, ()), ("covered", (FORK,), 0, ()),
                ("covered", HEARD, 2, (1,)), ("covered", HEARD, True, (1,)), ("covered", HEARD, "0", (1,)),
                ("covered", HEARD, 0, [1]), ("covered", HEARD, 0, (1, 0)), ("covered", HEARD, 0, (1, 1)),
                ("covered", HEARD, 0, (1, 2)), ("covered", HEARD, 0, (True,)), ("covered", HEARD, 0, 1),
                ("covered", list(HEARD), 0, (1,)), ("covered", (("deed", 1),), 0, (0,)), ("covered", BOTH, 0, (1,)),
                ("covered", None, 0, (0,)), ("apart", BOTH, 1, 0), ("apart", BOTH, 0, 0), ("apart", BOTH, 0, 2),
                ("apart", BOTH, -1, 0), ("apart", BOTH, False, 1), ("apart", BOTH, 0, True), ("apart", BOTH, 0, None),
                ("apart", BOTH, (0,), 1), ("apart", (("deed", 0),) * 2, 0, 1), ("apart", list(BOTH), 0, 1),
                ("apart", BOTH, 0, 1, 1), ("unlike", BOTH, BOTH[:2], (1,)), ("unlike", BOTH, BOTH, (1,), 0),
                ("unlike", BOTH, HEARD, (0,), 0), ("unlike", BOTH, HEARD, (), 0), ("unlike", BOTH, (), (0,), 0),
                ("unlike", BOTH, None, (1,), 0), ("unlike", None, BOTH, (1,), 0), ("unlike", BOTH, HEARD, [1], 0),
                ("unlike", BOTH, HEARD, (1,), False), ("unlike", BOTH, HEARD, (1,), 2),
                ("unlike", BOTH, HEARD, (1, 2), 0),
                ("unlike", BOTH, BOTH + (FORK, ("lose", 2)), (1,), 0), 5, None, "c;;0;0", (0, 0, 0, 0),
                ((), (), 0, (0,))):
            with self.subTest(value):
                self.assertIs(is_paper(value), False)
                self.assertRaises(InvalidPaper, paper_text, value)
        for value in strange_values():
            self.assertIs(is_paper(value), False)
            self.assertRaises(InvalidPaper, paper_text, value)

    def test_covered_ones_against_what_is_heard(self):
        for history, model in some_histories()[::11]:
            for mark in model.heard:
                for lot in all_lots(model.heard)[:40]:
                    union = set().union(*[model.heard[member] for member in lot])
                    shown = lot != () and model.heard[mark] <= union
                    self.assertIs(is_paper(("covered", history, mark, lot)), shown)

    def test_apart_ones_against_chains(self):
        for history, _ in some_histories()[::11]:
            count = len(deeds(history))
            for one, other in product(range(0, count, 2), range(count)):
                shown = one < other and are_apart(history, one, other)
                self.assertIs(is_paper(("apart", history, one, other)), shown)

    def test_unlike_ones_against_what_is_heard(self):
        answers = {True: 0, False: 0}
        for seed in range(30):
            one, other = (some_even(seed * 2 + more) for more in (0, 1))
            for lot in all_lots(range(3))[1:]:
                for mark in range(3):
                    covered = []
                    for history in (one, other):
                        union = set().union(*[set(heard(history, member)) for member in lot])
                        covered.append(set(heard(history, mark)) <= union)
                    shown = covered[0] != covered[1]
                    answers[shown] += 1
                    self.assertIs(is_paper(("unlike", one, other, lot, mark)), shown)
        self.assertGreater(min(answers.values()), 50)


class FormsOfPapers(unittest.TestCase):

    def look(self, text, index):
        self.assertEqual(error_of(paper_told, text), ("InvalidText", {"index": index}))

    def test_texts_that_only_end_too_early(self):
        for text in ("", "c", "a;", "u;;", "c;f", "c;f0", "c;f0;", "c;f0;0", "c;f0;0;", "c;f0;0;0.", "a;d0;0;",
                     "a;;59;6", "a;;12;1", "u;f0;f0;0", "u;f0;f0;0;", "u;h0.", "c;;0;5.5", "a;;59", "a;;5;5"):
            self.look(text, len(text))

    def test_numbers_and_lots(self):
        for text, index in (("c;;00;0", 4), ("c;;61;0", 4), ("c;;0;00", 6), ("c;;0;0.0", 7), ("c;;0;1.0", 7),
                            ("c;;0;60.", 7), ("c;;0;59.6", 9), ("c;;0;59.61", 9), ("c;;0;12.12", 9), ("c;;0;19.1", 8),
                            ("c;;0;20.1", 8), ("c;;0;5.9.7", 9), ("c;;0;5.60.", 9), ("c;;0;0.61", 8), ("c;;0;,", 5),
                            ("c;;0;.", 5), ("c;;0;;", 5), ("a;;60;", 4), ("a;;61", 4), ("a;;59;60", None),
                            ("a;;59;59", 6), ("a;;5;05", 5), ("a;;0;0", 5), ("a;;0;1x", 6), ("a;;12;12", 7),
                            ("a;;0;61", 6), ("u;;;0;61", 7), ("u;;;;0", 4), ("c;;0;0;", 6), ("c;;0;0 ", 6),
                            ("a;;0;1;", 6), ("u;;;0;0;", 7)):
            if index is None:
                self.assertEqual(error_of(paper_told, text)[0], "NotShown")
            else:
                self.look(text, index)

    def test_no_papers(self):
        for text, index in ((" c;;0;0", 0), ("C;;0;0", 0), ("x", 0), ("covered;", 1), (";;", 0), ("c,", 1), ("c;x", 2),
                            ("c;f0,;", 5), ("c;f0,x", 5), ("u;f0;x", 5), ("c;f0 ;", 4), ("c;(f0)", 2), ("a;f0,d61", 7)):
            self.look(text, index)

    def test_sixty_steps_and_one_more(self):
        sixty = ",".join(["d0"] * 60)
        self.assertEqual(paper_told(f"c;{sixty};0;0"), ("covered", (("deed", 0),) * 60, 0, (0,)))
        self.look(f"c;{sixty},d0;0;0", 2 + len(sixty))
        self.look(f"u;f0;{sixty},d0;0;0", 5 + len(sixty))

    def test_against_patterns(self):
        told = {}
        for seed in range(500):
            chance = Chance(seed + 1000)
            text = chance.one_of([text for _, text in PAPERS])
            text = bent(text, chance)
            error = error_of(paper_told, text)
            if is_paper_form(text):
                self.assertIn(None if error is None else error[0], (None, "NotShown"))
            else:
                self.assertEqual(error, ("InvalidText", {"index": index_of(text, is_paper_form)}), text)
            told[error and error[0]] = told.get(error and error[0], 0) + 1
        self.assertGreater(min(told.values()), 9)


class Shown(unittest.TestCase):

    def look(self, text, count):
        self.assertEqual(error_of(paper_told, text), ("NotShown", {"count": count}))

    def test_0(self):
        for text in ("c;f0,d2;0;1", "a;d1;0;1", "u;l0;f0;0;0", "c;h0.0;0;0", "u;f1;f1;0;0",
                     "a;f0,f0,f0,f0,f0,f0,f0,f0;0;1"):
            self.look(text, 0)

    def test_1(self):
        for text in ("u;f0;d1;0;0", "u;;j0.0;9;9", "u;f0,d0;f0,d2;1;7"):
            self.look(text, 1)

    def test_2(self):
        for text in ("c;f0,d0;2;1", "c;f0,d0;0;2", "c;f0,d0;0;0.2", "c;f0,l0;0;1", "c;;60;0", "a;f0,d0,d1;0;2",
                     "a;;0;1", "a;d0;0;1", "a;f0,d0,d1;2;3", "u;f0;;0;0", "u;f0;f0,d0;2;0", "u;f0;f0,d0;0;2",
                     "u;f0;f0,f0,l2;0;0", "u;f0,l1;f0,l0;0;1", "u;f0,d0;f0;1.2;0"):
            self.look(text, 2)

    def test_3(self):
        for text in ("c;f0,d0;0;1", "c;f0,d0,d1;1;0", "a;d0,d0;0;1", "a;f0,d0,h1.0,d1;0;1", "u;f0;f0;0;0",
                     "u;f0,d0;f0;0;0", "u;f0,d0;f0;0.1;0", "u;f0,d0;f0,d0,d0;1;0"):
            self.look(text, 3)


class K1(unittest.TestCase):

    def test_there_and_back(self):
        for history, model in some_histories()[::7]:
            self.assertEqual(history_told(history_text(history)), history)
            for mark in marks(history):
                for lot in all_lots(model.heard)[1:20:4]:
                    paper = ("covered", history, mark, lot)
                    if is_paper(paper):
                        self.assertEqual(paper_told(paper_text(paper)), paper)

    def test_texts_that_are_not_refused(self):
        kept = 0
        for seed in range(300):
            chance = Chance(seed + 70)
            for text, call, back in ((bent("f0,d1,h0.1,d0", chance), history_told, history_text),
                                     (bent(chance.one_of(PAPERS)[1], chance), paper_told, paper_text)):
                try:
                    told = call(text)
                except (InvalidText, InvalidHistory, NotShown):
                    continue
                kept += 1
                self.assertEqual(back(told), text)
        self.assertGreater(kept, 30)


class K2(unittest.TestCase):

    def test_unlike_papers_and_futures(self):
        answers = {True: 0, False: 0}
        for seed in range(120):
            one, other = (some_even(seed * 3 + more)[:5 + seed % 3] for more in (0, 1))
            papers = [("unlike", one, other, lot, mark) for lot in all_lots(range(3))[1:] for mark in range(3)]
            alike = are_alike(one, other)
            answers[alike] += 1
            self.assertIs(not any(map(is_paper, papers)), alike)
        self.assertGreater(min(answers.values()), 5)


if __name__ == "__main__":
    unittest.main()
