"""[31], [32]: live histories, their steps and what they answer."""

import unittest
from itertools import combinations

from heirstamps import histories
from heirstamps.counts import is_within, joined
from heirstamps.errors import InvalidHistory, InvalidLot, InvalidMark, InvalidSteps, NothingToUndo, Refused
from heirstamps.live import Live
from tests.support import do_step, error_of, live_fields, some_histories, strange_values

FORK = ("fork", 0)
TALE = (FORK, ("deed", 0), ("fork", 1), ("deed", 2), ("hear", 1, 0), ("deed", 1), ("join", 0, 2))


class Steps(unittest.TestCase):

    def test_each_one(self):
        live = Live(())
        self.assertEqual(live.fork(0), 1)
        self.assertEqual(live.deed(0), 0)
        self.assertEqual(live.fork(1), 2)
        self.assertEqual(live.deed(2), 1)
        self.assertIsNone(live.hear(1, 0))
        self.assertEqual(live.deed(1), 2)
        self.assertIsNone(live.join(0, 2))
        self.assertEqual(live.history, TALE)
        self.assertIsNone(live.lose(0))
        self.assertEqual(live_fields(live), (TALE + (("lose", 0),), (), (1,), 3, 0))

    def test_by_names(self):
        live = Live(history=(FORK,))
        self.assertEqual([live.fork(mark=1), live.deed(mark=0)], [2, 0])
        live.hear(mark=1, other_mark=0)
        live.join(other_mark=2, mark=1)
        live.lose(mark=0)
        self.assertEqual(live.history[1:], (("fork", 1), ("deed", 0), ("hear", 1, 0), ("join", 1, 2), ("lose", 0)))
        self.assertEqual(live.stamp(mark=1), ((0, 1), (0, 1, 0)))
        self.assertEqual(live.heard(mark=1), (0,))
        self.assertIs(live.covers(lot=(1,), mark=1), True)
        self.assertEqual(live.would(step=("fork", 1)), ((1, 3), ((0, (1, 0)), (0, 1, 0))))

    def test_numbers_of_the_start_count(self):
        live = Live(TALE)
        self.assertEqual(live_fields(live), (TALE, TALE, (0, 1), 3, 0))
        self.assertEqual(live.deed(1), 3)
        self.assertEqual(live.fork(0), 3)
        self.assertEqual(live.next_mark, 4)
        self.assertEqual(live.start, TALE)

    def test_fields_at_all_times(self):
        for history, _ in some_histories()[::7]:
            for cut in (0, len(history) // 2):
                live = Live(history[:cut])
                for at, step in enumerate(history[cut:]):
                    do_step(live, step)
                    now = history[:cut + at + 1]
                    forks = len([1 for done in now if done[0] == "fork"])
                    self.assertEqual(live_fields(live), (now, history[:cut], histories.marks(now), forks + 1, 0))

    def test_wrong_histories(self):
        for value, index in ((None, 0), ([], 0), ((FORK, ("deed", 2)), 1), ((("deed", 0),) * 61, 60), ("f0", 0)):
            with self.assertRaises(InvalidHistory) as caught:
                Live(value)
            self.assertEqual(caught.exception.index, index)


class Errors(unittest.TestCase):

    def test_marks(self):
        for value in strange_values() + [2, 3, (0,), 10 ** 89]:
            live = Live((FORK,))
            for call in (live.fork, live.deed, live.lose, live.stamp, live.heard):
                self.assertRaises(InvalidMark, call, value)
            for call in (live.hear, live.join):
                self.assertRaises(InvalidMark, call, value, 0)
                self.assertRaises(InvalidMark, call, 0, value)
                self.assertRaises(InvalidMark, call, value, value)
            self.assertEqual(live_fields(live), ((FORK,), (FORK,), (0, 1), 2, 0))

    def test_the_same_mark_twice(self):
        live = Live((FORK,))
        self.assertRaises(InvalidMark, live.hear, 1, 1)
        self.assertRaises(InvalidMark, live.join, 0, 0)
        # Also ahead of sixty steps.
        live = Live((FORK,) + (("deed", 0),) * 59)
        self.assertRaises(InvalidMark, live.hear, 1, 1)

    def test_sixty_steps(self):
        live = Live((FORK,) + (("deed", 0),) * 59)
        for call, parts in ((live.fork, (0,)), (live.deed, (1,)), (live.hear, (0, 1)), (live.join, (0, 1)),
                            (live.lose, (0,))):
            self.assertEqual(error_of(call, *parts), ("TooMany", {"count": 60}))
            self.assertRaises(InvalidMark, call, *[7 for _ in parts])
        live = Live((("deed", 0),) * 59)
        self.assertEqual(live.deed(0), 59)
        self.assertEqual(error_of(live.deed, 0), ("TooMany", {"count": 60}))
        # Ahead of Refused, and of eight copies.
        self.assertEqual(error_of(live.lose, 0), ("TooMany", {"count": 60}))
        live = Live((FORK,) * 7 + (("deed", 0),) * 53)
        self.assertEqual(error_of(live.fork, 1), ("TooMany", {"count": 60}))

    def test_eight_copies(self):
        live = Live((FORK,) * 7)
        self.assertEqual(error_of(live.fork, 7), ("TooMany", {"count": 8}))
        live.lose(3)
        self.assertEqual(live.fork(7), 8)
        self.assertEqual(live.marks, (0, 1, 2, 4, 5, 6, 7, 8))

    def test_the_only_copy(self):
        live = Live(())
        self.assertRaises(Refused, live.lose, 0)
        live.fork(0)
        live.lose(0)
        self.assertRaises(Refused, live.lose, 1)
        self.assertRaises(InvalidMark, live.lose, 0)

    def test_errors_of_the_stamps(self):
        live = Live(tuple(step for mark in range(1, 13) for step in (FORK, ("lose", mark))))
        self.assertEqual(live.marks, (0,))
        ahead = live_fields(live)
        self.assertEqual(error_of(live.fork, 0), ("TooMany", {"count": 12}))
        self.assertEqual(error_of(live.would, ("fork", 0)), ("TooMany", {"count": 12}))
        self.assertEqual(live_fields(live), ahead)
        self.assertEqual(live.deed(0), 0)

    def test_eight_copies_ahead_of_the_stamps(self):
        # One of eight copies has a share twelve halves deep.
        deep = tuple(step for mark in range(2, 13) for step in (FORK, ("lose", mark)))
        live = Live((FORK,) + deep + (("fork", 1),) * 6)
        self.assertEqual(len(live.marks), 8)
        self.assertEqual(error_of(live.fork, 0), ("TooMany", {"count": 8}))
        live.lose(1)
        self.assertEqual(error_of(live.fork, 0), ("TooMany", {"count": 12}))

    def test_nothing_is_changed(self):
        live = Live(TALE[:3])
        live.begin()
        ahead = live_fields(live)
        for step in (("fork", 9), ("hear", 0, 0), ("join", 5, 0), ("lose", None), ("deed", True)):
            self.assertRaises(InvalidMark, do_step, live, step)
        self.assertRaises(InvalidSteps, live.would, None)
        self.assertRaises(InvalidLot, live.covers, None, 0)
        self.assertRaises(NothingToUndo, live.undo)
        self.assertEqual(live_fields(live), ahead)


class Questions(unittest.TestCase):

    def test_stamp_and_heard(self):
        live = Live(())
        for step in TALE:
            do_step(live, step)
            for mark in live.marks:
                self.assertEqual(live.stamp(mark), histories.stamp_of(live.history, mark))
                self.assertEqual(live.heard(mark), histories.heard(live.history, mark))

    def test_covers_small_ones(self):
        live = Live((FORK, ("deed", 0), ("deed", 1)))
        self.assertEqual([live.covers((), 0), live.covers((1,), 0), live.covers((0, 1), 0)], [False, False, True])
        self.assertIs(Live(()).covers((), 0), True)
        self.assertIs(Live(()).covers((0,), 0), True)

    def test_covers_and_newest(self):
        for history, model in some_histories()[::9]:
            live = Live(history)
            counts = {mark: live.stamp(mark)[1] for mark in live.marks}
            for size in range(3):
                for lot in combinations(live.marks, size):
                    together = 0
                    for mark in lot:
                        together = joined(together, counts[mark])
                    union = set().union(*[model.heard[mark] for mark in lot])
                    for mark in live.marks:
                        told = live.covers(lot, mark)
                        self.assertIs(told, is_within(counts[mark], together))
                        self.assertIs(told, model.heard[mark] <= union)
            aim = [mark for mark in live.marks if not any(is_within(counts[mark], counts[other])
                                                          and counts[mark] != counts[other] for other in live.marks)]
            self.assertEqual(live.newest(), tuple(aim))
            self.assertTrue(aim)

    def test_newest_small_ones(self):
        self.assertEqual(Live(()).newest(), (0,))
        self.assertEqual(Live((FORK,)).newest(), (0, 1))
        self.assertEqual(Live((FORK, ("deed", 1))).newest(), (1,))
        self.assertEqual(Live((FORK, ("deed", 1), ("hear", 0, 1))).newest(), (0, 1))
        self.assertEqual(Live((FORK, FORK, ("deed", 1), ("deed", 2))).newest(), (1, 2))

    def test_lots(self):
        live = Live((FORK, FORK, ("lose", 1)))
        for lot in (None, 0, [0], (1,), (0, 1), (2, 0), (0, 0), (True,), (False,), ("0",), ((0,),), (0, None),
                    10 ** 89):
            self.assertRaises(InvalidLot, live.covers, lot, None)
        for value in strange_values():
            if value != (0, 2):
                self.assertRaises(InvalidLot, live.covers, value, 0)
        self.assertRaises(InvalidMark, live.covers, (0, 2), 1)
        self.assertIs(live.covers((0, 2), 2), True)


class Would(unittest.TestCase):

    def test_each_step(self):
        live = Live(TALE[:5])
        ahead = live_fields(live)
        for step in (("fork", 1), ("deed", 0), ("hear", 2, 1), ("join", 1, 2), ("join", 0, 1), ("fork", 2)):
            marks, stamp = live.would(step)
            later = Live(live.history)
            do_step(later, step)
            self.assertEqual((marks, stamp), (later.marks, later.stamp(step[1])))
            self.assertEqual(live_fields(live), ahead)
        self.assertEqual(live.would(("lose", 1)), ((0, 2), None))
        self.assertEqual(live.would(("fork", 0))[0], (0, 1, 2, 3))
        self.assertEqual(live_fields(live), ahead)

    def test_forms_that_are_none(self):
        live = Live((FORK,))
        for value in (None, (), [], ("fork",), ("fork", 0, 1), ("hear", 0), ("join", 0, 1, 2), ("lose",), ["fork", 0],
                      ("Fork", 0), ("undo",), ("would", 0), ("stamp", 0), (0, "fork"), ("deed",), "fork", (None, 0),
                      (("fork", 0),), ((), 0), ([], 0), (True, 0)):
            self.assertEqual(error_of(live.would, value), ("InvalidSteps", {"index": 0}))
        for value in strange_values():
            if value != ("fork", 0):
                self.assertEqual(error_of(live.would, value), ("InvalidSteps", {"index": 0}))

    def test_what_the_method_would_raise(self):
        live = Live((FORK,))
        for step in (("fork", 2), ("fork", None), ("deed", True), ("hear", 0, 0), ("hear", 0, 2), ("join", [], ()),
                     ("lose", "0"), ("join", 1, 1)):
            self.assertEqual(error_of(live.would, step), ("InvalidMark", {}))
        self.assertEqual(error_of(Live((FORK,) * 7).would, ("fork", 1)), ("TooMany", {"count": 8}))
        self.assertEqual(error_of(Live((("deed", 0),) * 60).would, ("deed", 0)), ("TooMany", {"count": 60}))
        self.assertRaises(Refused, Live(()).would, ("lose", 0))


if __name__ == "__main__":
    unittest.main()
