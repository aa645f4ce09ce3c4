"""What DOC.md promises over the whole program, and the facts J1 to J3."""

import copy
import os
import subprocess
import sys
import unittest
from itertools import combinations

from heirstamps import (
    bits, chains, compared, console, counts, dots, errors, futures, histories, live, lost, meetings, paper_texts,
    shares, shelves, sizes,
)
from heirstamps.console import Console
from heirstamps.live import Live, NarrowLive, replay
from tests.calls import BOTH, CALLS, CREW, PART, ROWS, SHELF, STRIKES, TALE
from tests.plain import all_lots
from tests.support import (
    Chance, chain_share, error_of, full_counts, full_share, some_histories, some_history, strange_values,
)

FORK = ("fork", 0)

LIVE_METHODS = ("fork", "deed", "hear", "join", "lose", "stamp", "heard", "covers", "newest", "standings", "would",
                "undo", "begin", "keep", "drop", "twin", "__eq__", "__init__")
NARROW_METHODS = ("fork", "deed", "hear", "join", "lose", "would", "twin", "__eq__", "__init__")

INTERFACE = {
    shares: "is_share share_at halved united less owned_paths share_text share_told",
    counts: "is_counts worth_at joined is_within raised counts_text counts_told is_stamp",
    histories: "is_history marks stamp_of heard deeds known_at",
    compared: "above met covers bare_path least_cover needed is_loose least_form spread gathered put_together peak "
              "least_peak best_row",
    futures: "least_covers cover_table are_alike parting is_parting",
    meetings: "gathering knows_all is_hear_plan shortest_plan fewest_steps is_join_plan plan_peak flattest_peak "
              "flattest_plan first_meeting",
    chains: "knows are_apart levels width widest longest_row fewest_rows is_row_sharing row_counts deeds_by is_entries "
            "fewest_entries some_entries is_crown greatest_crown crown_history",
    bits: "word_of seems false_pairs least_size",
    dots: "is_dot has_dot dot_behind least_counts dot_of deed_by deeds_told is_shelf merged put struck_off",
    shelves: "held struck_by shelf_of all_struck",
    lost: "is_crew crew_of lost_share may_take barring takeable takers hear_first taken",
    sizes: "share_size counts_size stamp_size sizes split_paths least_total balanced share_total nth_share share_rank",
    live: "Live NarrowLive replay",
    paper_texts: "history_text history_told is_paper paper_text paper_told",
    console: "Console",
}

# Each class of [5] with a call that raises it, and the fields that it has then.
RAISED = (
    ("InvalidShare", shares.halved, (2,), {}), ("InvalidCounts", counts.joined, (1, None), {}),
    ("InvalidStamp", sizes.stamp_size, ((1, True),), {}), ("InvalidPath", shares.share_at, (1, (2,)), {}),
    ("InvalidMark", Live(()).deed, (1,), {}), ("InvalidLot", Live(()).covers, ((1,), 0), {}),
    ("InvalidCount", sizes.nth_share, (1, -1), {}), ("InvalidLoose", compared.least_form, ((0, 1),), {}),
    ("InvalidWorths", compared.gathered, ((1, 2, 3),), {}), ("InvalidRow", compared.peak, ((1, 0), (0,)), {}),
    ("InvalidPlan", meetings.plan_peak, (BOTH, ()), {}), ("InvalidDeed", dots.dot_of, (TALE, 3), {}),
    ("InvalidRows", chains.row_counts, (TALE, (), 0), {}),
    ("InvalidNumbers", chains.deeds_by, (TALE, ROWS, (2, 0)), {}),
    ("InvalidDot", dots.deed_by, (TALE, ((), 0)), {}), ("InvalidDots", dots.put, (1, SHELF, (((), 1),)), {}),
    ("InvalidShelf", dots.merged, (SHELF, (0, (((), 1),))), {}), ("InvalidCrew", lost.lost_share, ((),), {}),
    ("InvalidMember", lost.takeable, (CREW, 2), {}), ("InvalidPaper", paper_texts.paper_text, ((),), {}),
    ("InvalidCommand", Console().execute, ("fork",), {}), ("Refused", counts.raised, (0, 1), {}),
    ("NothingToUndo", Live(TALE).undo, (), {}), ("NoSpan", Live(TALE).keep, (), {}),
    ("NotReady", Console().execute, ("show",), {}), ("InvalidHistory", Live, ((FORK, None),), {"index": 1}),
    ("InvalidText", paper_texts.history_told, ("f0,d61",), {"index": 5}),
    ("InvalidStrikes", shelves.held, (TALE, STRIKES[:2], 0), {"index": 2}),
    ("InvalidSteps", replay, ((), [FORK, ("deed", 2)]), {"index": 1}),
    ("TooMany", counts.raised, (chain_share(7), full_counts(6)), {"count": 63}),
    ("NotShown", paper_texts.paper_told, ("c;f0,d0;0;1",), {"count": 3}),
    ("Overlap", shares.united, ((1, 0), ((0, 1), 1)), {"path": (0, 1)}),
    ("NotLost", lost.takers, (CREW, (0, 1)), {"path": (1, 0)}),
    ("NotHeard", lost.taken, (CREW, 1, PART), {"member": 0}),
    ("NotNarrow", NarrowLive((FORK,), 1).deed, (0,), {"lot": (0,)}),
)

# Each bound that TooMany tells, with a call that goes beyond it.
BOUNDS = (
    (12, shares.halved, (chain_share(12),)), (63, lost.lost_share, ((((full_share(5), 0), 0), ((0, full_share(5, (
        (0, 1), 0))), 0)),)), (4, meetings.shortest_plan, ((FORK,) * 4,)),
    (12, chains.some_entries, ((("deed", 0),) * 13,)), (16, chains.greatest_crown, ((("deed", 0),) * 17,)),
    (40, shelves.shelf_of, ((("deed", 0),) * 41, ((),) * 41, 0)), (64, sizes.balanced, (65,)),
    (60, Live((("deed", 0),) * 60).deed, (0,)), (8, Live((FORK,) * 7).fork, (0,)),
)


class Interface(unittest.TestCase):

    def test_defined_where_they_are_listed(self):
        for module, names in INTERFACE.items():
            for name in names.split():
                with self.subTest(name):
                    self.assertEqual(getattr(module, name).__module__, module.__name__)

    def test_each_function_is_called_by_the_rules(self):
        called = {(module, name) for module, name, _, _ in CALLS}
        for module, names in INTERFACE.items():
            for name in names.split():
                if module not in (live, console):
                    self.assertIn((module, name), called)

    def test_methods_stand_in_their_classes(self):
        for name in LIVE_METHODS:
            self.assertIn(name, vars(Live))
        for name in NARROW_METHODS:
            self.assertIn(name, vars(NarrowLive))
        self.assertIn("execute", vars(Console))
        self.assertIs(NarrowLive.__bases__[0], Live)

    def test_classes_of_errors(self):
        names = [name for name, told in vars(errors).items() if isinstance(told, type)]
        self.assertEqual(sorted(names), sorted(["StampError"] + [name for name, _, _, _ in RAISED]))


class Errors(unittest.TestCase):

    def test_each_class_is_raised(self):
        for name, call, parts, told in RAISED:
            with self.subTest(name):
                self.assertEqual(error_of(call, *parts), (name, told))

    def test_each_bound_is_told(self):
        for bound, call, parts in BOUNDS:
            with self.subTest(call.__name__):
                self.assertEqual(error_of(call, *parts), ("TooMany", {"count": bound}))

    def test_strange_values_alone_and_beside_others(self):
        for value in strange_values():
            for other in (None, True, 0, value):
                stood = Live(BOTH)
                for name, parts in (("hear", (value, other)), ("join", (value, other)), ("covers", (value, other))):
                    told = error_of(getattr(stood, name), *parts)
                    self.assertIn(told, (("InvalidMark", {}), ("InvalidLot", {})))
                self.assertEqual(error_of(NarrowLive, value, other), ("InvalidHistory", {"index": 0}))
                self.assertEqual(error_of(Console().execute, value), ("InvalidCommand", {}))
                self.assertEqual(stood, Live(BOTH))


class Arguments(unittest.TestCase):

    def test_they_stay_as_they_were(self):
        steps = [list(FORK), FORK, ("deed", [0])]
        for value in strange_values() + [steps, [FORK, steps]]:
            ahead = copy.deepcopy(value)
            error_of(replay, (), value)
            error_of(replay, value, [])
            error_of(replay, (), [FORK, value])
            error_of(Live(BOTH).would, value)
            error_of(Live(BOTH).would, ("hear", value, value))
            error_of(Live(BOTH).covers, value, value)
            self.assertIs(Live(BOTH) == value, False)
            self.assertEqual(repr(value), repr(ahead))

    def test_told_lists_are_new(self):
        stood = Live(BOTH)
        for told in (stood.standings(), sizes.sizes(BOTH), sizes.split_paths(BOTH), sizes.balanced(3)):
            self.assertIs(type(told), list)
            told.clear()
        self.assertEqual([stood.standings(), sizes.sizes(BOTH), sizes.split_paths(BOTH), len(sizes.balanced(3))],
                         [[(0,)], [0, 2, 3, 4], [()], 3])


class SameAnswers(unittest.TestCase):

    def test_objects_do_not_touch_one_another(self):
        one, other = Live(()), Live(())
        first, second = Console(), Console()
        one.fork(0)
        one.begin()
        first.execute("open a")
        self.assertEqual((other.history, other.depth, other.marks), ((), 0, (0,)))
        self.assertRaises(errors.NotReady, second.execute, "use a")

    def test_another_process(self):
        commands = ["run open a; fork 0; deed 0; fork 1; deed 2; hear 1 0",
                    "run show; stamp 1; newest; standings; paper 1",
                    "run twin b; undo; same b; journal; covers 1 0 2; where"]
        program = "from heirstamps.console import Console\nconsole = Console()\n"
        program += f"for command in {commands!r}: print(console.execute(command))"
        stood = Console()
        here = "".join(stood.execute(command) + "\n" for command in commands)
        folder = os.path.dirname(os.path.dirname(os.path.abspath(shares.__file__)))
        for seed in ("0", "5"):
            place = {**os.environ, "PYTHONHASHSEED": seed, "PYTHONPATH": folder, "PYTHONDONTWRITEBYTECODE": "1"}
            told = subprocess.run([sys.executable, "-c", program], env=place, capture_output=True, text=True)
            self.assertEqual(told.stdout, here, told.stderr)


class AnotherSequence(unittest.TestCase):

    def test_neighbours_without_a_copy_in_common(self):
        swapped = 0
        for history, _ in some_histories()[::3]:
            stamps = {mark: histories.stamp_of(history, mark) for mark in histories.marks(history)}
            for at in range(len(history) - 1):
                one, other = history[at:at + 2]
                forks = [step for step in (one, other) if step[0] == "fork"]
                # A copy that has just come is told by its mark; the marks of two forks would be the other way about.
                further = len([1 for step in history[:at] if step[0] == "fork"]) + 1
                if len(forks) == 2 or set(one[1:]) & set(other[1:]) or (forks and further in one[1:] + other[1:]):
                    continue
                later = history[:at] + (other, one) + history[at + 2:]
                # With eight copies or one, what goes must go ahead of what comes.
                if histories.is_history(later):
                    swapped += 1
                    self.assertEqual({mark: histories.stamp_of(later, mark) for mark in histories.marks(later)}, stamps)
        self.assertGreater(swapped, 200)

    def test_two_copies_each_by_itself(self):
        one = (("deed", 0), ("fork", 0), ("deed", 2), ("hear", 0, 2), ("deed", 0))
        other = (("deed", 1), ("deed", 1), ("deed", 1))
        aim = None
        for places in combinations(range(8), 3):
            rows = [list(one), list(other)]
            history = (FORK,) + tuple(rows[at in places].pop(0) for at in range(8))
            stamps = [histories.stamp_of(history, mark) for mark in (0, 1, 2)]
            aim = aim or stamps
            self.assertEqual(stamps, aim)


class J1(unittest.TestCase):

    def test_a_history_at_all_times(self):
        for history, model in some_histories()[::13]:
            stood = Live(())
            for step in history:
                getattr(stood, step[0])(*step[1:])
                self.assertIs(histories.is_history(stood.history), True)
            for mark in stood.marks:
                self.assertEqual(stood.stamp(mark), histories.stamp_of(history, mark))
                self.assertEqual(stood.heard(mark), tuple(sorted(model.heard[mark])))


class J2(unittest.TestCase):

    def test_covers_and_newest(self):
        for history, _ in some_histories()[::9]:
            stood = Live(history)
            table = dict(futures.cover_table(history))
            for lot in all_lots(stood.marks)[1:60]:
                for mark in stood.marks:
                    covered = any(set(least) <= set(lot) for least in table[mark])
                    self.assertIs(stood.covers(lot, mark), covered)
            newest = stood.newest()
            self.assertTrue(newest)
            same = [mark for mark in stood.marks
                    if stood.stamp(mark)[1] in [stood.stamp(member)[1] for member in newest]]
            self.assertEqual(tuple(same), newest)


class J3(unittest.TestCase):

    def test_replayed(self):
        for seed in range(30):
            chance = Chance(seed)
            history, _ = some_history(seed, 10, ("fork", "deed", "deed", "hear", "join", "lose"), 6)
            cut = chance.below(len(history) + 1)
            for stood in (Live(history[:cut]), NarrowLive(history[:cut], 40)):
                for step in history[cut:]:
                    if chance.below(3) == 0:
                        stood.begin()
                    getattr(stood, step[0])(*step[1:])
                    if chance.below(4) == 0 and stood.depth:
                        stood.keep()
                while chance.below(2) and len(stood.history) > cut and error_of(stood.undo) is None:
                    pass
                bound = stood.bound if type(stood) is NarrowLive else None
                again = replay(stood.start, list(stood.history[len(stood.start):]), bound=bound)
                self.assertTrue(again == stood)
                self.assertEqual(again.standings(), stood.standings())
                self.assertEqual(again.newest(), stood.newest())
                self.assertEqual([again.would(("fork", mark)) for mark in again.marks[:2] if len(again.marks) < 8],
                                 [stood.would(("fork", mark)) for mark in stood.marks[:2] if len(stood.marks) < 8])


if __name__ == "__main__":
    unittest.main()
