"""[33]: narrow live histories, and replay."""

import inspect
import unittest

from heirstamps.errors import (
    InvalidCount, InvalidHistory, InvalidMark, InvalidSteps, NothingToUndo, NotNarrow, Refused, TooMany,
)
from heirstamps.histories import marks, stamp_of
from heirstamps.live import Live, NarrowLive, replay
from heirstamps.sizes import stamp_size
from tests.support import Chance, error_of, some_histories, strange_values

FORK = ("fork", 0)
TALE = (FORK, ("deed", 0), ("fork", 1), ("deed", 2), ("hear", 1, 0), ("deed", 1), ("join", 0, 2))
TOLD = ("history", "start", "marks", "next_mark", "depth")


def wide_lot(history, bound):
    """The copies with a stamp of a greater size."""
    return tuple(mark for mark in marks(history) if stamp_size(stamp_of(history, mark)) > bound)


class Made(unittest.TestCase):

    def test_fields(self):
        live = NarrowLive(TALE, 5)
        self.assertEqual(live.bound, 5)
        self.assertEqual([getattr(live, name) for name in TOLD], [TALE, TALE, (0, 1), 3, 0])
        self.assertEqual(NarrowLive(bound=1, history=()).bound, 1)
        self.assertIsInstance(live, Live)

    def test_bounds(self):
        for bound in (1, 126):
            self.assertEqual(NarrowLive((), bound).bound, bound)
        for bound in (0, 127, -1, None, True, "1", (1,), [1], 10 ** 89):
            self.assertRaises(InvalidCount, NarrowLive, (), bound)
            self.assertRaises(InvalidCount, NarrowLive, TALE, bound)
            self.assertRaises(InvalidHistory, NarrowLive, None, bound)
        for value in strange_values():
            self.assertRaises(InvalidCount, NarrowLive, (), value)
            self.assertRaises(InvalidHistory, NarrowLive, value, 3)

    def test_histories_beyond_the_bound(self):
        # The sizes of both stamps are four.
        for bound in (1, 2, 3):
            self.assertEqual(error_of(NarrowLive, TALE, bound), ("NotNarrow", {"lot": (0, 1)}))
        self.assertEqual(error_of(NarrowLive, TALE + (("lose", 1),), 1), ("NotNarrow", {"lot": (0,)}))
        self.assertEqual(NarrowLive(TALE, 4).history, TALE)
        self.assertEqual(error_of(NarrowLive, (FORK, ("deed", 1)), 1), ("NotNarrow", {"lot": (1,)}))
        # By the copies behind the whole history alone.
        later = TALE + (("join", 0, 1),)
        self.assertEqual(wide_lot(later, 3), ())
        self.assertEqual(NarrowLive(later, 3).marks, (0,))

    def test_by_a_plain_reckoning(self):
        for history, _ in some_histories()[::5]:
            for bound in (1, 2, 4, 7, 126):
                lot = wide_lot(history, bound)
                aim = ("NotNarrow", {"lot": lot}) if lot else None
                self.assertEqual(error_of(NarrowLive, history, bound), aim)


class Steps(unittest.TestCase):

    def test_each_step_that_would_go_beyond(self):
        live = NarrowLive((FORK,), 1)
        for step in (("fork", 0), ("fork", 1), ("deed", 0), ("deed", 1)):
            lot = wide_lot((FORK, step), 1)
            self.assertTrue(lot)
            self.assertEqual(error_of(getattr(live, step[0]), *step[1:]), ("NotNarrow", {"lot": lot}))
            self.assertEqual(error_of(live.would, step), ("NotNarrow", {"lot": lot}))
        self.assertEqual(live.history, (FORK,))
        self.assertIsNone(live.hear(0, 1))
        self.assertIsNone(live.join(0, 1))
        self.assertEqual(live.deed(0), 0)

    def test_hear_join_and_lose(self):
        start = (FORK, FORK, ("fork", 1), ("deed", 0), ("deed", 1))
        live = NarrowLive(start, 4)
        self.assertEqual([stamp_size(live.stamp(mark)) for mark in live.marks], [4, 4, 2, 2])
        for step, mark in ((("hear", 0, 1), 0), (("hear", 1, 0), 1), (("join", 0, 1), 0), (("join", 1, 0), 1)):
            self.assertEqual(error_of(getattr(live, step[0]), *step[1:]), ("NotNarrow", {"lot": (mark,)}))
            self.assertEqual(error_of(live.would, step), ("NotNarrow", {"lot": (mark,)}))
        self.assertEqual(live.history, start)
        self.assertIsNone(live.hear(2, 1))
        self.assertIsNone(live.join(0, 2))
        # Behind lose the others are as they were, so this never goes beyond.
        self.assertIsNone(live.lose(1))
        self.assertEqual(live.marks, (0, 3))

    def test_behind_all_other_errors(self):
        live = NarrowLive((FORK,), 1)
        for step in (("fork", 2), ("deed", None), ("hear", 0, 0), ("join", 2, 0), ("lose", True)):
            self.assertRaises(InvalidMark, getattr(live, step[0]), *step[1:])
            self.assertRaises(InvalidMark, live.would, step)
        self.assertRaises(InvalidSteps, live.would, ("fork",))
        live = NarrowLive((FORK,) + (("hear", 0, 1),) * 59, 1)
        self.assertEqual(error_of(live.fork, 0), ("TooMany", {"count": 60}))
        live = NarrowLive((), 1)
        self.assertRaises(Refused, live.lose, 0)
        # Eight copies with shares of three tuples.
        live = NarrowLive((FORK, FORK, ("fork", 1), FORK, ("fork", 1), ("fork", 2), ("fork", 3)), 3)
        self.assertEqual(error_of(live.fork, 0), ("TooMany", {"count": 8}))
        deep = tuple(step for mark in range(1, 13) for step in (FORK, ("lose", mark)))
        self.assertEqual(error_of(NarrowLive(deep, 12).fork, 0), ("TooMany", {"count": 12}))

    def test_as_a_plain_one_within_the_bound(self):
        refused = 0
        for seed in range(40):
            chance = Chance(seed)
            bound = 1 + seed % 5
            narrow, plain = NarrowLive((), bound), Live(())
            for _ in range(30):
                step = (chance.one_of(("fork", "fork", "deed", "deed", "hear", "join", "lose")), chance.below(3))
                if step[0] in ("hear", "join"):
                    step += (chance.below(3),)
                aim = error_of(plain.would, step)
                lot = wide_lot(plain.history + (step,), bound) if aim is None else ()
                if lot:
                    aim = ("NotNarrow", {"lot": lot})
                    refused += 1
                self.assertEqual(error_of(narrow.would, step), aim)
                self.assertEqual(error_of(getattr(narrow, step[0]), *step[1:]), aim)
                if aim is None:
                    getattr(plain, step[0])(*step[1:])
                self.assertEqual(narrow.history, plain.history)
                self.assertEqual([getattr(narrow, name) for name in TOLD], [getattr(plain, name) for name in TOLD])
        self.assertGreater(refused, 100)

    def test_what_is_told(self):
        live = NarrowLive((), 9)
        self.assertEqual([live.fork(0), live.deed(1), live.fork(1), live.deed(0)], [1, 0, 2, 1])
        self.assertEqual([live.hear(0, 1), live.join(1, 2), live.lose(0)], [None, None, None])
        self.assertEqual(live.would(("fork", 1)), ((1, 3), ((0, (1, 0)), (0, 0, 1))))
        self.assertEqual([live.heard(1), live.newest(), live.covers((1,), 1), live.standings()[0]],
                         [(0,), (1,), True, (0,)])


class Twins(unittest.TestCase):

    def test_twin(self):
        live = NarrowLive((FORK,), 2)
        live.begin()
        live.deed(0)
        twin = live.twin()
        self.assertIs(type(twin), NarrowLive)
        self.assertEqual((twin.bound, twin.start, twin.history, twin.depth), (2, (FORK,), (FORK, ("deed", 0)), 0))
        self.assertTrue(twin == live and live == twin)
        self.assertEqual(error_of(twin.fork, 0), ("NotNarrow", {"lot": wide_lot((FORK, ("deed", 0), FORK), 2)}))
        twin.undo()
        self.assertFalse(twin == live)
        self.assertRaises(NothingToUndo, twin.undo)

    def test_equals(self):
        self.assertTrue(NarrowLive(TALE, 4) == NarrowLive(TALE, 4))
        self.assertFalse(NarrowLive(TALE, 4) == NarrowLive(TALE, 5))
        self.assertFalse(NarrowLive(TALE, 4) == NarrowLive(TALE[:6], 4))
        self.assertFalse(NarrowLive(TALE, 4) == Live(TALE))
        self.assertFalse(Live(TALE) == NarrowLive(TALE, 4))
        self.assertTrue(NarrowLive(TALE, 4) != Live(TALE))
        for value in (None, 4, (), TALE, True):
            self.assertIs(NarrowLive(TALE, 4) == value, False)
        one, other = NarrowLive((FORK,), 4), NarrowLive((), 4)
        other.fork(0)
        self.assertEqual(one.history, other.history)
        self.assertFalse(one == other)


class Replay(unittest.TestCase):

    def test_parameters(self):
        told = inspect.signature(replay).parameters
        self.assertEqual(list(told), ["history", "steps", "bound"])
        self.assertEqual([told["bound"].kind, told["bound"].default], [inspect.Parameter.KEYWORD_ONLY, None])
        self.assertEqual(replay(steps=[], history=()), Live(()))
        self.assertEqual(replay(steps=[FORK], bound=1, history=()), replay((), [FORK], bound=1))
        self.assertRaises(TypeError, replay, (), [], 1)

    def test_steps(self):
        live = replay((), list(TALE))
        self.assertIs(type(live), Live)
        self.assertEqual((live.start, live.history, live.depth), ((), TALE, 0))
        self.assertEqual(live.undo(), TALE[-1])
        live = replay(TALE[:2], list(TALE[2:]), bound=126)
        self.assertIs(type(live), NarrowLive)
        self.assertEqual((live.start, live.history, live.bound), (TALE[:2], TALE, 126))
        self.assertEqual(replay(TALE, []), Live(TALE))
        self.assertEqual(replay((FORK,), [("lose", 0), ("deed", 1)]).history, (FORK, ("lose", 0), ("deed", 1)))

    def test_no_list(self):
        for steps in (None, (), tuple(TALE), "f0", 0, True, ("fork", 0), {}):
            self.assertEqual(error_of(replay, (), steps), ("InvalidSteps", {"index": 0}))
            self.assertEqual(error_of(replay, (), steps, bound=3), ("InvalidSteps", {"index": 0}))

    def test_errors_of_the_class_first(self):
        self.assertEqual(error_of(replay, (FORK, None), None), ("InvalidHistory", {"index": 1}))
        self.assertEqual(error_of(replay, None, [None], bound=0), ("InvalidHistory", {"index": 0}))
        for bound in (0, 127, True, False, "1", [1], (1,)):
            self.assertEqual(error_of(replay, (), None, bound=bound), ("InvalidCount", {}))
        self.assertEqual(error_of(replay, TALE, None, bound=1), ("NotNarrow", {"lot": (0, 1)}))

    def test_entries_of_another_form(self):
        for entry in (None, [], ("fork",), ("fork", 0, 1), ["fork", 0], ("undo",), ("begin",), ("would", 0), 0, "f0"):
            self.assertEqual(error_of(replay, (), [entry]), ("InvalidSteps", {"index": 0}))
            self.assertEqual(error_of(replay, (), [FORK, ("deed", 1), entry, FORK]), ("InvalidSteps", {"index": 2}))
        for entry in strange_values():
            if entry != FORK:
                self.assertEqual(error_of(replay, (), [FORK, entry]), ("InvalidSteps", {"index": 1}))

    def test_entries_that_raise(self):
        self.assertEqual(error_of(replay, (), [("fork", 1)]), ("InvalidSteps", {"index": 0}))
        self.assertEqual(error_of(replay, (), [FORK, ("hear", 1, 1)]), ("InvalidSteps", {"index": 1}))
        self.assertEqual(error_of(replay, (), [FORK] * 7 + [("fork", 3)]), ("InvalidSteps", {"index": 7}))
        self.assertEqual(error_of(replay, (), [("deed", 0)] * 61), ("InvalidSteps", {"index": 60}))
        self.assertEqual(error_of(replay, (("deed", 0),) * 59, [("deed", 0)] * 3), ("InvalidSteps", {"index": 1}))
        self.assertEqual(error_of(replay, (), [("lose", 0)]), ("InvalidSteps", {"index": 0}))
        self.assertEqual(error_of(replay, (), [("deed", 0), FORK, ("deed", 2), None]), ("InvalidSteps", {"index": 2}))
        self.assertEqual(error_of(replay, (), [FORK, ("deed", 0)], bound=1), ("InvalidSteps", {"index": 1}))
        self.assertEqual(error_of(replay, (), [("deed", 0), FORK, FORK], bound=1), ("InvalidSteps", {"index": 2}))

    def test_the_list_stays_as_it_was(self):
        steps = list(TALE)
        live = replay((), steps)
        live.deed(0)
        self.assertEqual(steps, list(TALE))
        steps.append(FORK)
        self.assertEqual(len(live.history), 8)

    def test_against_histories(self):
        for history, _ in some_histories()[::7]:
            cut = len(history) // 2
            live = replay(history[:cut], list(history[cut:]))
            self.assertEqual(live.history, history)
            self.assertRaises(NotNarrow, replay, TALE, [], bound=3)
            self.assertRaises(TooMany, Live((("deed", 0),) * 60).deed, 0)


if __name__ == "__main__":
    unittest.main()
