"""[32]: live histories, taken back, in spans, as twins; standings."""

import unittest
from itertools import combinations

from heirstamps import histories
from heirstamps.errors import NoSpan, NothingToUndo
from heirstamps.futures import are_alike
from heirstamps.live import Live, NarrowLive
from tests.support import Chance, do_step, error_of, live_fields, some_histories

FORK = ("fork", 0)
TALE = (FORK, ("deed", 0), ("fork", 1), ("deed", 2), ("hear", 1, 0), ("deed", 1), ("join", 0, 2))


class Undo(unittest.TestCase):

    def test_step_by_step(self):
        for history, _ in some_histories()[::11]:
            cut = len(history) // 3
            live = Live(history[:cut])
            rows = [live_fields(live)]
            for step in history[cut:]:
                do_step(live, step)
                rows.append(live_fields(live))
            for at in reversed(range(cut, len(history))):
                self.assertEqual(live.undo(), history[at])
                self.assertEqual(live_fields(live), rows[at - cut])
            self.assertRaises(NothingToUndo, live.undo)
            self.assertEqual(live_fields(live), rows[0])

    def test_next_marks_and_numbers_come_again(self):
        live = Live(())
        self.assertEqual([live.fork(0), live.deed(1)], [1, 0])
        self.assertEqual([live.undo(), live.undo()], [("deed", 1), FORK])
        self.assertEqual([live.next_mark, live.fork(0), live.deed(0)], [1, 1, 0])

    def test_at_the_start(self):
        self.assertRaises(NothingToUndo, Live(()).undo)
        self.assertRaises(NothingToUndo, Live(TALE).undo)


class Spans(unittest.TestCase):

    def test_keep_and_drop(self):
        live = Live((FORK,))
        self.assertIsNone(live.begin())
        live.deed(0)
        self.assertIsNone(live.begin())
        live.deed(1)
        self.assertEqual(live.depth, 2)
        self.assertIsNone(live.drop())
        self.assertEqual((live.depth, live.history), (1, (FORK, ("deed", 0))))
        live.fork(1)
        self.assertIsNone(live.keep())
        self.assertEqual((live.depth, live.history), (0, (FORK, ("deed", 0), ("fork", 1))))
        self.assertEqual(live.undo(), ("fork", 1))
        self.assertEqual(live.undo(), ("deed", 0))
        self.assertRaises(NothingToUndo, live.undo)

    def test_undo_at_the_beginning_of_a_span(self):
        live = Live(())
        live.deed(0)
        live.begin()
        self.assertRaises(NothingToUndo, live.undo)
        live.deed(0)
        self.assertEqual(live.undo(), ("deed", 0))
        self.assertRaises(NothingToUndo, live.undo)
        live.keep()
        self.assertEqual(live.undo(), ("deed", 0))

    def test_spans_within_spans(self):
        live = Live(())
        for count in range(12):
            live.begin()
            live.deed(0)
            self.assertEqual(live.depth, count + 1)
        live.keep()
        self.assertEqual(len(live.history), 12)
        # The steps of the kept one go with the one around it.
        live.drop()
        self.assertEqual((len(live.history), live.depth), (10, 10))
        for count in reversed(range(10)):
            live.drop()
            self.assertEqual((len(live.history), live.depth), (count, count))
        self.assertRaises(NoSpan, live.drop)

    def test_no_span(self):
        live = Live(TALE)
        for call in (live.keep, live.drop):
            self.assertRaises(NoSpan, call)
        live.begin()
        live.keep()
        for call in (live.keep, live.drop):
            self.assertRaises(NoSpan, call)
        self.assertEqual(live_fields(live), (TALE, TALE, (0, 1), 3, 0))

    def test_drop_behind_undo(self):
        live = Live(())
        live.begin()
        live.fork(0)
        live.deed(1)
        live.undo()
        live.begin()
        self.assertRaises(NothingToUndo, live.undo)
        live.drop()
        self.assertEqual(live.undo(), FORK)
        live.drop()
        self.assertEqual(live_fields(live), ((), (), (0,), 1, 0))

    def test_drop_takes_the_next_mark_back(self):
        live = Live(())
        live.begin()
        live.fork(0)
        live.lose(0)
        live.drop()
        self.assertEqual(live_fields(live), ((), (), (0,), 1, 0))
        self.assertEqual(live.fork(0), 1)


class Twins(unittest.TestCase):

    def test_equal_and_independent(self):
        live = Live(TALE[:2])
        live.fork(1)
        live.begin()
        live.deed(2)
        twin = live.twin()
        self.assertIs(type(twin), Live)
        self.assertEqual(live_fields(twin), (TALE[:4], TALE[:2], (0, 1, 2), 3, 0))
        self.assertTrue(twin == live and live == twin)
        twin.deed(0)
        self.assertFalse(twin == live)
        self.assertEqual(live.history, TALE[:4])
        live.deed(0)
        self.assertTrue(twin == live)
        live.undo()
        live.drop()
        self.assertEqual(len(twin.history), 5)
        self.assertEqual([twin.undo() for _ in range(3)], [("deed", 0), ("deed", 2), ("fork", 1)])
        self.assertRaises(NothingToUndo, twin.undo)
        self.assertRaises(NoSpan, twin.keep)
        self.assertEqual((live.history, live.depth), (TALE[:3], 0))

    def test_equals(self):
        live, long = Live(TALE[:3]), Live(TALE[:2])
        long.fork(1)
        self.assertEqual(live.history, long.history)
        self.assertFalse(live == long)
        self.assertTrue(live != long)
        self.assertTrue(live == Live(TALE[:3]))
        self.assertFalse(live != Live(TALE[:3]))
        self.assertFalse(Live(()) == NarrowLive((), 126))
        self.assertFalse(NarrowLive((), 126) == Live(()))
        for value in (None, 0, (), TALE[:3], "live", [], True, live.history):
            self.assertIs(live == value, False)
            self.assertIs(value == live, False)
            self.assertIs(live != value, True)
        spanned = Live(TALE[:3])
        spanned.begin()
        self.assertTrue(spanned == live)


class Standings(unittest.TestCase):

    def test_small_ones(self):
        self.assertEqual(Live(()).standings(), [(0,)])
        self.assertEqual(Live(TALE).standings(), [(0,)])
        live = Live((FORK,))
        live.deed(0)
        live.deed(0)
        self.assertEqual(live.standings(), [(0,), (1, 2)])
        live.hear(1, 0)
        self.assertEqual(live.standings(), [(0, 3), (1, 2)])
        live.deed(1)
        live.hear(0, 1)
        live.lose(1)
        self.assertEqual(live.standings(), [(0, 3, 5), (1, 2), (4,), (6,)])
        live.undo()
        live.undo()
        self.assertEqual(live.standings(), [(0, 3), (1, 2), (4,)])
        # A copy that has heard nothing, alone, stands as one that has heard something.
        alone = Live(())
        alone.deed(0)
        self.assertEqual(alone.standings(), [(0, 1)])

    def test_against_are_alike(self):
        for seed, (history, _) in enumerate(some_histories()[::7]):
            cut = min(seed, len(history))
            live = Live(history[:cut])
            for step in history[cut:cut + 14]:
                do_step(live, step)
            told = live.standings()
            numbers = len(live.history) - cut + 1
            self.assertEqual(sorted(number for row in told for number in row), list(range(numbers)))
            self.assertEqual(told, sorted(tuple(sorted(row)) for row in told))
            place = {number: row for row in told for number in row}
            for one, other in combinations(range(numbers), 2):
                alike = are_alike(live.history[:cut + one], live.history[:cut + other])
                self.assertIs(place[one] == place[other], alike)

    def test_lists_are_new(self):
        live = Live(())
        told = live.standings()
        told.append("more")
        self.assertEqual(live.standings(), [(0,)])


class ChangedByChance(unittest.TestCase):

    def test_a_plain_reckoning_of_steps_and_spans(self):
        for seed in range(30):
            chance = Chance(seed)
            live, steps, spans = Live(TALE[:seed % 4]), list(TALE[:seed % 4]), []
            floor = len(steps)
            for _ in range(40):
                word = chance.one_of(("fork", "deed", "hear", "join", "lose", "undo", "undo", "begin", "keep", "drop"))
                if word in ("undo", "begin", "keep", "drop"):
                    error = error_of(getattr(live, word))
                    least = spans[-1] if spans else floor
                    if word == "undo":
                        self.assertEqual(error is None, len(steps) > least)
                        steps = steps[:-1] if error is None else steps
                    elif word == "begin":
                        spans.append(len(steps))
                    else:
                        self.assertEqual(error is None, bool(spans))
                        gone = spans.pop() if spans else None
                        steps = steps[:gone] if word == "drop" and gone is not None else steps
                else:
                    step = (word,) + tuple(chance.below(4) for _ in range(2 if word in ("hear", "join") else 1))
                    allowed = histories.is_history(tuple(steps) + (step,))
                    self.assertEqual(error_of(do_step, live, step) is None, allowed)
                    steps += [step] if allowed else []
                self.assertEqual((live.history, live.depth), (tuple(steps), len(spans)))
                self.assertEqual(live.marks, histories.marks(tuple(steps)))


if __name__ == "__main__":
    unittest.main()
