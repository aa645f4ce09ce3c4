"""[35], [36]: a console."""

import unittest

from heirstamps.console import Console
from heirstamps.counts import counts_text
from heirstamps.errors import (
    InvalidCommand, InvalidCount, InvalidLot, InvalidMark, NoSpan, NothingToUndo, NotNarrow, NotReady, Refused,
    StampError, TooMany,
)
from heirstamps.futures import least_covers
from heirstamps.live import Live, replay
from heirstamps.paper_texts import history_told, paper_text, paper_told
from heirstamps.shares import share_text
from tests.support import Chance, error_of, strange_values

QUESTIONS = ("show", "marks", "newest", "standings", "journal", "heard 0", "heard 1", "stamp 0", "stamp 1",
             "covers 0 1", "covers 1 0", "paper 0", "paper 1", "heard 2", "covers 2 0 1")


def console_with(*commands):
    """A console behind these commands."""
    console = Console()
    for command in commands:
        console.execute(command)
    return console


def answers(console, questions=QUESTIONS):
    """The answers to questions, or the errors in their place."""
    told = []
    for question in questions:
        try:
            told.append(console.execute(question))
        except StampError as error:
            told.append((type(error).__name__, vars(error)))
    return told


class Names(unittest.TestCase):

    def test_no_public_fields(self):
        console = console_with("open a", "fork 0")
        self.assertEqual([name for name in vars(console) if not name.startswith("_")], [])
        self.assertEqual(Console().execute(command="open a"), "ok")

    def test_open_and_use(self):
        console = Console()
        told = [console.execute(command) for command in ("open a", "fork 0", "open b", "show", "use a", "show")]
        self.assertEqual(told, ["ok", "1", "ok", "none", "ok", "f0"])

    def test_in_the_place_of_another_one(self):
        console = console_with("open a", "fork 0", "open b", "open a")
        self.assertEqual([console.execute("show"), console.execute("journal")], ["none", "open a"])
        console = console_with("open a", "fork 0", "narrow a 3")
        self.assertEqual(console.execute("journal"), "narrow a 3")

    def test_narrow(self):
        console = console_with("narrow abcdefgh 1")
        self.assertEqual(console.execute("fork 0"), "1")
        self.assertEqual(error_of(console.execute, "deed 0"), ("NotNarrow", {"lot": (0,)}))
        self.assertEqual(console.execute("journal"), "narrow abcdefgh 1; fork 0")
        for bound in (0, 127, 1000, 9999):
            self.assertRaises(InvalidCount, console.execute, f"narrow b {bound}")
        self.assertRaises(NotReady, console.execute, "use b")
        self.assertEqual(console.execute("narrow b 126"), "ok")

    def test_twin(self):
        console = console_with("open a", "fork 0")
        self.assertEqual(console.execute("twin b"), "ok")
        self.assertEqual(console.execute("same b"), "yes")
        self.assertEqual(console.execute("deed 0"), "0")
        self.assertEqual([console.execute("journal"), console.execute("same b")], ["open a; fork 0; deed 0", "no"])
        console.execute("use b")
        self.assertEqual([console.execute("journal"), console.execute("same a")], ["open b; fork 0", "no"])
        self.assertEqual(console.execute("undo"), "fork 0")
        self.assertEqual(console.execute("use a"), "ok")
        self.assertEqual(console.execute("show"), "f0,d0")

    def test_twin_by_the_own_name(self):
        console = console_with("open a", "fork 0", "begin", "deed 1", "twin a")
        # The twin is the chosen one, and has no span.
        self.assertEqual(console.execute("where"), "2 2 0")
        self.assertEqual([console.execute("undo"), console.execute("undo")], ["deed 1", "fork 0"])
        self.assertRaises(NoSpan, console.execute, "keep")

    def test_twin_of_a_narrow_one(self):
        console = console_with("narrow a 1", "fork 0", "twin b", "use b")
        self.assertEqual([console.execute("journal"), console.execute("same a")], ["narrow b 1; fork 0", "yes"])
        self.assertRaises(NotNarrow, console.execute, "fork 0")
        console = console_with("open a", "narrow b 9", "twin b", "use a")
        self.assertEqual(console.execute("same b"), "no")

    def test_same(self):
        console = console_with("open a", "narrow b 9", "narrow c 9", "narrow d 8", "use b")
        self.assertEqual([console.execute(f"same {name}") for name in "abcd"], ["no", "yes", "yes", "no"])
        console.execute("fork 0")
        self.assertEqual([console.execute(f"same {name}") for name in "abcd"], ["no", "yes", "no", "no"])

    def test_forget(self):
        console = console_with("open a", "open b", "fork 0")
        self.assertEqual(console.execute("forget a"), "ok")
        self.assertEqual(console.execute("show"), "f0")
        self.assertRaises(NotReady, console.execute, "use a")
        self.assertEqual(console.execute("forget b"), "ok")
        for command in ("show", "fork 0", "undo", "twin a", "same b", "journal", "begin", "where"):
            self.assertRaises(NotReady, console.execute, command)
        self.assertRaises(NotReady, console.execute, "use b")
        self.assertRaises(NotReady, console.execute, "forget b")
        self.assertEqual([console.execute("open b"), console.execute("show")], ["ok", "none"])


class NotReadyErrors(unittest.TestCase):

    def test_no_choice(self):
        commands = ["twin a", "same a", "fork 0", "deed 0", "hear 0 1", "join 0 1", "lose 0", "undo", "begin", "keep",
                    "drop", "show", "marks", "newest", "heard 0", "stamp 0", "covers 0 1", "standings", "where",
                    "paper 0", "journal", "use a", "forget a"]
        for command in commands:
            self.assertRaises(NotReady, Console().execute, command)
            self.assertRaises(NotReady, Console().execute, "run " + command)

    def test_ahead_of_the_errors_of_methods(self):
        for command in ("fork 99", "hear 1 1", "heard 9999", "covers 9 9", "keep", "undo"):
            self.assertRaises(NotReady, Console().execute, command)

    def test_a_name_that_is_not_there(self):
        console = console_with("open a")
        for command in ("use b", "forget b", "same b"):
            self.assertRaises(NotReady, console.execute, command)
        self.assertEqual(console.execute("same a"), "yes")


class Steps(unittest.TestCase):

    def test_answers(self):
        console = console_with("open a")
        told = [console.execute(command) for command in ("fork 0", "deed 1", "fork 1", "deed 0", "hear 0 2", "join 0 2",
                                                         "lose 1", "deed 0", "undo", "undo", "undo", "undo")]
        self.assertEqual(told, ["1", "0", "2", "1", "ok", "ok", "ok", "2", "deed 0", "lose 1", "join 0 2", "hear 0 2"])

    def test_spans(self):
        console = console_with("open a")
        told = [console.execute(command) for command in ("begin", "fork 0", "begin", "deed 1", "where", "drop",
                                                         "where", "keep", "where", "undo", "where")]
        self.assertEqual(told, ["ok", "1", "ok", "0", "2 2 2", "ok", "2 1 1", "ok", "2 1 0", "fork 0", "1 0 0"])

    def test_errors_of_methods(self):
        console = console_with("open a", "fork 0")
        for command, error in (("fork 2", "InvalidMark"), ("hear 0 0", "InvalidMark"), ("deed 9999", "InvalidMark"),
                               ("heard 2", "InvalidMark"), ("stamp 2", "InvalidMark"), ("paper 2", "InvalidMark"),
                               ("covers 2 0", "InvalidMark"), ("covers 0 2", "InvalidLot"),
                               ("covers 2 2", "InvalidLot"), ("keep", "NoSpan"), ("drop", "NoSpan")):
            self.assertEqual(error_of(console.execute, command), (error, {}))
        console.execute("undo")
        self.assertRaises(NothingToUndo, console.execute, "undo")
        self.assertRaises(Refused, console.execute, "lose 0")
        console.execute("run " + "; ".join(["deed 0"] * 60))
        self.assertEqual(error_of(console.execute, "deed 0"), ("TooMany", {"count": 60}))
        console = console_with("open a", *["fork 0"] * 7)
        self.assertEqual(error_of(console.execute, "fork 7"), ("TooMany", {"count": 8}))


class Questions(unittest.TestCase):

    def test_small_ones(self):
        console = console_with("run open a; fork 0; deed 0; fork 1; deed 2; hear 1 0")
        self.assertEqual(answers(console, ("show", "marks", "newest", "heard 0", "heard 1", "heard 2", "stamp 1",
                                           "where")),
                         ["f0,d0,f1,d2,h1.0", "0 1 2", "0 1 2", "0", "0", "1", "(0,(1,0)) (0,1,0)", "3 5 0"])
        self.assertEqual(answers(console, ("standings", "paper 1", "journal", "covers 1 0", "covers 0 1",
                                           "covers 2 0 1")),
                         ["0 1 2 3 4 5", "c;f0,d0,f1,d2,h1.0;1;0",
                          "open a; fork 0; deed 0; fork 1; deed 2; hear 1 0", "yes", "yes", "no"])

    def test_none_wherever_it_is_empty(self):
        console = console_with("open a")
        self.assertEqual(answers(console, ("show", "heard 0", "marks", "newest", "standings", "where", "stamp 0",
                                           "journal")),
                         ["none", "none", "0", "0", "0", "1 0 0", "1 0", "open a"])
        self.assertEqual(console.execute("run show; heard 0; show"), "none; none; none")

    def test_standings(self):
        console = console_with("run open a; fork 0; deed 0; deed 0; hear 1 0; deed 1; hear 0 1")
        self.assertEqual(console.execute("standings"), "0 1=4=6 2=3 5")

    def test_covers_in_any_sequence(self):
        console = console_with("run open a; fork 0; fork 1; deed 0; deed 1; deed 2; hear 2 1; hear 2 0")
        self.assertEqual(answers(console, ("covers 2 0 1", "covers 1 2", "covers 1 2 2 2", "covers 1 2 0 1 0 2",
                                           "covers 1 0", "covers 2 1 0 2", "covers 2 1 1 0")),
                         ["no", "yes", "yes", "yes", "no", "yes", "no"])

    def test_as_the_methods_tell(self):
        for seed in range(25):
            chance = Chance(seed)
            console, live = console_with("open a"), Live(())
            for _ in range(14):
                word = chance.one_of(("fork", "deed", "hear", "join", "lose", "deed"))
                step = (word,) + tuple(chance.below(3) for _ in range(2 if word in ("hear", "join") else 1))
                error = error_of(getattr(live, word), *step[1:])
                self.assertEqual(error_of(console.execute, " ".join(map(str, step))), error)
            self.assertEqual(console.execute("newest"), " ".join(map(str, live.newest())))
            self.assertEqual(console.execute("marks"), " ".join(map(str, live.marks)))
            if live.history:
                self.assertEqual(history_told(console.execute("show")), live.history)
            self.assertEqual(console.execute("standings"),
                             " ".join("=".join(map(str, row)) for row in live.standings()))
            for mark in live.marks:
                share, counts = live.stamp(mark)
                self.assertEqual(console.execute(f"stamp {mark}"), share_text(share) + " " + counts_text(counts))
                lot = least_covers(live.history, mark)[0]
                paper = ("covered", live.history, mark, lot)
                self.assertEqual(console.execute(f"paper {mark}"), paper_text(paper))
                self.assertEqual(paper_told(console.execute(f"paper {mark}")), paper)


class Runs(unittest.TestCase):

    def test_small_ones(self):
        console = Console()
        self.assertEqual(console.execute("run open a"), "ok")
        self.assertEqual(console.execute("run fork 0; deed 1; show; undo"), "1; 0; f0,d1; deed 1")
        self.assertEqual(console.execute("run open b; twin a; use a; same b; forget b"), "ok; ok; ok; yes; ok")
        self.assertEqual(console.execute("show"), "none")

    def test_all_of_it_is_taken_back(self):
        for last, error in (("fork 9", "InvalidMark"), ("keep", "NoSpan"), ("use zz", "NotReady"),
                            ("narrow a 0", "InvalidCount"), ("heard 9", "InvalidMark")):
            console = console_with("open b", "fork 0", "begin", "deed 0", "begin", "open a", "deed 0", "begin",
                                   "fork 0")
            told = answers(console, QUESTIONS + ("where",))
            for run in ("fork 0; undo; undo; drop; deed 0; begin; begin; begin; begin",
                        "open c; fork 0; open a; fork 0", "forget b; forget a; open b",
                        "use b; drop; drop; undo; open d; use b", "narrow b 5; fork 0; twin a", "twin b; use b; undo",
                        "drop; undo"):
                command = f"run {run}; {last}" if last != "keep" else f"run {run}; open x; keep"
                self.assertEqual(error_of(console.execute, command), (error, {}))
                self.assertEqual(answers(console, QUESTIONS + ("where",)), told)
                for name in ("c", "d", "x"):
                    self.assertRaises(NotReady, console.execute, f"same {name}")
                console.execute("use b")
                self.assertEqual(answers(console, ("where", "show")), ["2 2 2", "f0,d0"])
                console.execute("use a")
            self.assertEqual([console.execute("undo"), error_of(console.execute, "undo")],
                             ["fork 0", ("NothingToUndo", {})])
            console.execute("run keep; use b; drop; drop")
            self.assertEqual(console.execute("run show; where"), "f0; 2 1 0")

    def test_a_run_without_a_choice(self):
        console = Console()
        self.assertRaises(NotReady, console.execute, "run show; open a")
        self.assertRaises(NotReady, console.execute, "use a")
        self.assertRaises(NotReady, console.execute, "run open a; forget a; show")
        self.assertRaises(NotReady, console.execute, "use a")

    def test_forms_are_looked_at_ahead_of_all(self):
        console = Console()
        self.assertRaises(InvalidCommand, console.execute, "run show; shew")
        self.assertRaises(InvalidCommand, console.execute, "run open a; fork 0; fork")
        self.assertRaises(NotReady, console.execute, "show")

    def test_spans_go_on_behind_a_run(self):
        console = console_with("run open a; begin; fork 0; begin", "run deed 0; begin")
        self.assertEqual(console.execute("where"), "2 2 3")
        self.assertEqual(console.execute("run drop; drop; where; drop; where"), "ok; ok; 2 1 1; ok; 1 0 0")

    def test_sixty_four_commands(self):
        console = Console()
        steps = ["fork 0"] * 7 + ["deed 3"] * 53
        told = console.execute("run " + "; ".join(["open a"] + steps + ["standings", "show", "where"]))
        self.assertEqual(told.split("; ")[:9], ["ok", "1", "2", "3", "4", "5", "6", "7", "0"])
        self.assertEqual(told.split("; ")[-1], "8 60 0")
        self.assertEqual(len(console.execute("run " + "; ".join(["standings"] * 64)).split("; ")), 64)


class Forms(unittest.TestCase):

    def test_commands_that_are_none(self):
        console = console_with("open a", "fork 0")
        for command in ("", " ", "  ", "show ", " show", "show  ", "fork  0", "fork 0 ", " fork 0", "fork\t0",
                        "fork 0\n", "show\t", "Show", "SHOW", "shows", "sho", "fork", "fork 0 1", "fork a", "fork -1",
                        "fork +1", "fork 00", "fork 01", "fork 0000", "fork 12345", "fork 10000", "fork 0.", "fork ,",
                        "hear 0", "hear 0 1 2", "hear 0,1", "join 0", "join 0  1", "lose", "lose 0 0", "deed",
                        "undo 1", "begin a", "keep 0", "drop ;", "show;", "open", "open ", "open A", "open abcdefghi",
                        "open a1", "open a b", "open a_", "open 1", "open a;", "narrow a", "narrow 3", "narrow 3 a",
                        "narrow a 03", "narrow a b", "narrow a 12345", "narrow a 1 1", "use", "use 0", "use a a",
                        "twin", "twin A", "forget", "same", "same 1", "covers", "covers 0", "covers 0 a",
                        "covers 0 1 ", "covers  0 1", "covers 0 01", "covers a 0 1", "heard", "heard a", "heard 0 1",
                        "stamp", "paper", "paper 0 1", "journal a", "where 0", "standings 1", "marks 0", "newest 0",
                        "show; marks", "show;marks", "would 0", "replay", "help", "run", "run ", "run  show",
                        "run show ", "run ; show", "run show; ", "run show;", "run show;marks", "run show;  marks",
                        "run show ; marks", "run run show", "run show; run marks", "run show; run", "run; show",
                        "runs show", "run\tshow", "run show;; marks", " run show", "run show\n", "x" * 20000,
                        "run " * 5000, "fork \u0660"):
            with self.subTest(command):
                self.assertRaises(InvalidCommand, console.execute, command)
                self.assertRaises(InvalidCommand, Console().execute, command)
                if command != "show; marks":
                    self.assertRaises(InvalidCommand, console.execute, "run show; " + command)
        self.assertEqual(console.execute("show"), "f0")

    def test_any_values(self):
        for value in strange_values() + [5, (), ["show"], ("show",), b"show"]:
            self.assertRaises(InvalidCommand, Console().execute, value)

    def test_names_and_numbers_that_are_good(self):
        console = Console()
        for name in ("a", "z", "abcdefgh", "run", "open", "zzzzzzzz", "show"):
            self.assertEqual(console.execute(f"open {name}"), "ok")
            self.assertEqual(console.execute(f"run use {name}; journal"), f"ok; open {name}")
        for number in ("0", "1", "10", "9999", "1000"):
            self.assertIn(error_of(console.execute, f"heard {number}"), (None, ("InvalidMark", {})))
        for number in ("1", "126"):
            self.assertEqual(console.execute(f"narrow a {number}"), "ok")

    def test_ahead_of_not_ready(self):
        self.assertRaises(InvalidCommand, Console().execute, "fork")
        self.assertRaises(NotReady, Console().execute, "fork 0")

    def test_one_command_that_raises_changes_nothing(self):
        console = console_with("open a", "fork 0", "begin")
        told = answers(console, QUESTIONS + ("where",))
        for command in ("fork 5", "use b", "narrow a 0", "forget b", "undo", "covers 0 9", "fork 00"):
            self.assertIsNotNone(error_of(console.execute, command))
            self.assertEqual(answers(console, QUESTIONS + ("where",)), told)


class K3(unittest.TestCase):

    def test_journals(self):
        for seed in range(30):
            chance = Chance(seed)
            first = chance.one_of(("open a", "narrow a 6", "open b"))
            console = console_with(first)
            for _ in range(20):
                word = chance.one_of(("fork", "deed", "hear", "join", "lose", "undo", "begin", "drop", "keep",
                                      "twin a"))
                many = {"hear": 2, "join": 2, "fork": 1, "deed": 1, "lose": 1}.get(word, 0)
                error_of(console.execute, " ".join([word] + [str(chance.below(3)) for _ in range(many)]))
            journal = console.execute("journal")
            other = Console()
            other.execute("run " + journal)
            self.assertEqual(answers(other), answers(console))
            steps = [tuple(int(part) if part.isdigit() else part for part in command.split(" "))
                     for command in journal.split("; ")[1:]]
            aim = replay((), steps, bound=6 if first == "narrow a 6" else None)
            name = journal.split("; ")[0].split(" ")[1]
            # A console has no public fields, so the equal one is looked for by the names of this one.
            other.execute(f"twin {name}")
            self.assertEqual(other.execute("show"), console.execute("show"))
            self.assertEqual(" ".join(map(str, aim.marks)), console.execute("marks"))
            console.execute("run twin other; use other")
            console.execute("run " + journal)
            self.assertEqual(console.execute("same other"), "yes")


class Wrong(unittest.TestCase):

    def test_errors_have_their_classes(self):
        console = console_with("open a")
        self.assertRaises(InvalidLot, console.execute, "covers 0 1")
        self.assertRaises(InvalidMark, console.execute, "covers 1 0")
        self.assertRaises(TooMany, console_with("open a", *["deed 0"] * 60).execute, "deed 0")


if __name__ == "__main__":
    unittest.main()
