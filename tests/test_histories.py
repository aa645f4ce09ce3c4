"""[11], [12]: histories."""

import unittest

from heirstamps.errors import InvalidCount, InvalidHistory, InvalidMark
from heirstamps.histories import deeds, heard, is_history, known_at, marks, stamp_of
from tests.support import chain_share, counts_of, deep, share_of, some_histories, strange_values

FORK = ("fork", 0)
DEED = ("deed", 0)
EIGHT = (FORK,) * 7
# Twelve forks of copy 0, behind each of which the further copy goes.
TWELVE_HALVES = tuple(step for mark in range(1, 13) for step in (FORK, ("lose", mark)))


def of_all(history):
    """Calls of each function that takes a history, for which all else is as it may be."""
    return (lambda: marks(history), lambda: stamp_of(history, 0), lambda: heard(history, 0),
            lambda: deeds(history), lambda: known_at(history, 1))


class Histories(unittest.TestCase):

    def good(self, history):
        with self.subTest(history=history):
            self.assertIs(is_history(history), True)
            marks(history)
            deeds(history)

    def bad(self, history, index):
        with self.subTest(history=history):
            self.assertIs(is_history(history), False)
            for call in of_all(history):
                with self.assertRaises(InvalidHistory) as caught:
                    call()
                self.assertIs(type(caught.exception.index), int)
                self.assertEqual(caught.exception.index, index)

    def test_ordinary_ones(self):
        for history in ((), (FORK,), (DEED,), (DEED, DEED), (FORK, ("hear", 0, 1)), (FORK, ("hear", 1, 0)),
                        (FORK, ("join", 1, 0)), (FORK, ("join", 0, 1), DEED), (FORK, ("lose", 0), ("deed", 1)),
                        (FORK, ("lose", 1)), (FORK, ("lose", 0), ("fork", 1), ("deed", 2))):
            self.good(history)

    def test_no_tuple(self):
        for value in (None, True, False, 0, 1, 60, "", "fork", "f0", [], [FORK], [[]], [None] * 100):
            self.bad(value, 0)

    def test_entries_that_are_no_steps(self):
        for entry in (None, True, 0, "fork", "", [], ["fork", 0], (), ("fork",), ("fork", 0, 1), ("fork", 0, 0),
                      ("deed",), ("deed", 0, 1), ("lose",), ("lose", 0, 1), ("hear",), ("hear", 0), ("hear", 0, 1, 2),
                      ("join", 0), ("join", 0, 1, 1), ("Fork", 0), ("forks", 0), ("", 0), ("f", 0), (0, "fork"),
                      (None, 0), (("fork",), 0), (["fork"], 0), ("fork", (0,)), ("fork", [0]), ("fork", "0"),
                      ("fork", None), ("take", 0), ("undo",), ("hear", [0, 1]), (("hear", 0, 1),), deep(40),
                      ("a" * 20000, 0), (0,) * 2000, ("fork", 10 ** 89), ("fork", -1), (True, 0)):
            self.bad((entry,), 0)
            self.bad((FORK, DEED, entry), 2)
            self.bad((FORK, entry, DEED), 1)
            self.bad((FORK, entry, entry), 1)

    def test_truths_are_no_marks(self):
        for entry in (("fork", False), ("deed", False), ("deed", True), ("lose", True), ("hear", True, 0),
                      ("hear", 0, True), ("hear", False, 1), ("join", 1, False), ("join", True, False)):
            self.bad((FORK, entry), 1)

    def test_the_least_index(self):
        self.bad((FORK, ("deed", 2), ("deed", 3)), 1)
        self.bad((("deed", 1), FORK, ("deed", 1)), 0)
        self.bad((FORK, DEED, None, ("deed", 7)), 2)

    def test_marks_to_come(self):
        for entry in (("fork", 1), ("deed", 1), ("lose", 1), ("hear", 0, 1), ("hear", 1, 0), ("join", 0, 1),
                      ("join", 1, 0)):
            self.bad((entry,), 0)
            self.bad((entry, FORK), 0)
        for name in ("fork", "deed", "lose"):
            self.bad((FORK, (name, 2), FORK), 1)
        self.bad((FORK, ("hear", 0, 2)), 1)
        self.bad((FORK, ("join", 2, 0)), 1)

    def test_marks_that_have_gone(self):
        for gone in (("join", 0, 1), ("lose", 1)):
            for entry in (("fork", 1), ("deed", 1), ("lose", 1), ("hear", 0, 1), ("hear", 1, 0), ("join", 0, 1)):
                self.bad((FORK, gone, entry), 2)
            self.good((FORK, gone, FORK, ("deed", 2)))
            self.bad((FORK, gone, FORK, ("deed", 1)), 3)
        self.bad((FORK, ("join", 1, 0), DEED), 2)
        self.bad((FORK, ("lose", 0), FORK), 2)

    def test_a_copy_and_itself(self):
        for name in ("hear", "join"):
            self.bad(((name, 0, 0),), 0)
            self.bad((FORK, (name, 1, 1)), 1)
            self.bad((FORK, (name, 0, 0)), 1)

    def test_the_last_copy_cannot_go(self):
        self.bad((("lose", 0),), 0)
        self.bad((FORK, ("lose", 0), ("lose", 1)), 2)
        self.bad((FORK, ("join", 1, 0), ("lose", 1)), 2)

    def test_eight_copies_and_nine(self):
        self.good(EIGHT)
        self.assertEqual(marks(EIGHT), (0, 1, 2, 3, 4, 5, 6, 7))
        self.bad(EIGHT + (FORK,), 7)
        self.bad(EIGHT + (("fork", 7),), 7)
        self.good(EIGHT + (("lose", 3), ("fork", 7)))
        self.good(EIGHT + (("join", 3, 0), ("fork", 7)))
        self.assertEqual(marks(EIGHT + (("lose", 3), ("fork", 7))), (0, 1, 2, 4, 5, 6, 7, 8))
        self.bad(EIGHT + (("lose", 3), ("fork", 7), ("fork", 8)), 9)

    def test_60_steps_and_61(self):
        self.good((DEED,) * 60)
        self.assertEqual(deeds((DEED,) * 60), [0] * 60)
        self.assertEqual(heard((DEED,) * 60, 0), tuple(range(60)))
        self.bad((DEED,) * 61, 60)
        self.bad((DEED,) * 60 + (None,), 60)
        self.bad((DEED,) * 3000, 60)
        self.bad((DEED,) * 59 + (None, DEED), 59)
        self.bad((DEED,) * 59 + (("deed", 1),), 59)
        self.bad((DEED,) * 3 + (None,) + (DEED,) * 60, 3)
        self.bad((None,) * 61, 0)

    def test_a_share_halved_a_thirteenth_time(self):
        self.good(TWELVE_HALVES)
        self.assertEqual(stamp_of(TWELVE_HALVES, 0), (chain_share(12), 0))
        self.good(TWELVE_HALVES + (DEED,))
        self.bad(TWELVE_HALVES + (FORK,), 24)
        self.bad(TWELVE_HALVES + (DEED, FORK, DEED), 25)
        self.bad(TWELVE_HALVES[:-1] + (("fork", 12), DEED), 23)

    def test_a_share_put_together_can_be_halved_again(self):
        again = TWELVE_HALVES[:-1] + (("join", 0, 12), FORK)
        self.good(again)
        self.assertEqual(stamp_of(again, 13)[0], chain_share(11, (0,), (0, 1)))


class Steps(unittest.TestCase):

    def test_the_start(self):
        self.assertEqual(marks(()), (0,))
        self.assertEqual(stamp_of((), 0), (1, 0))
        self.assertEqual(heard((), 0), ())
        self.assertEqual(deeds(()), [])

    def test_fork(self):
        steps = (DEED, FORK)
        self.assertEqual(marks(steps), (0, 1))
        self.assertEqual(stamp_of(steps, 0), ((1, 0), 1))
        self.assertEqual(stamp_of(steps, 1), ((0, 1), 1))
        self.assertEqual(heard(steps, 1), (0,))
        steps = (FORK, ("fork", 1), ("fork", 1))
        self.assertEqual([stamp_of(steps, mark)[0] for mark in marks(steps)],
                         [(1, 0), (0, ((1, 0), 0)), (0, (0, 1)), (0, ((0, 1), 0))])

    def test_what_is_heard_behind_a_fork_is_ones_own(self):
        steps = (DEED, FORK, ("deed", 1), DEED)
        self.assertEqual(heard(steps, 0), (0, 2))
        self.assertEqual(heard(steps, 1), (0, 1))
        self.assertEqual(stamp_of(steps, 0), ((1, 0), (1, 1, 0)))
        self.assertEqual(stamp_of(steps, 1), ((0, 1), (1, 0, 1)))

    def test_deed(self):
        self.assertEqual(stamp_of((DEED, DEED), 0), (1, 2))
        steps = (FORK, ("deed", 1), DEED, ("deed", 1))
        self.assertEqual(deeds(steps), [1, 0, 1])
        self.assertEqual([heard(steps, mark) for mark in (0, 1)], [(1,), (0, 2)])
        self.assertEqual(stamp_of(steps, 1), ((0, 1), (0, 0, 2)))

    def test_hear_goes_one_way(self):
        steps = (FORK, ("deed", 1), DEED, ("hear", 1, 0))
        self.assertEqual(stamp_of(steps, 0), ((1, 0), (0, 1, 0)))
        self.assertEqual(stamp_of(steps, 1), ((0, 1), 1))
        self.assertEqual([heard(steps, mark) for mark in (0, 1)], [(1,), (0, 1)])
        self.assertEqual(marks(steps), (0, 1))

    def test_join(self):
        steps = (FORK, FORK, ("deed", 1), DEED, ("join", 2, 1))
        self.assertEqual(marks(steps), (0, 2))
        self.assertEqual(stamp_of(steps, 2), (((0, 1), 1), (0, 0, 1)))
        self.assertEqual(heard(steps, 2), (0,))
        self.assertEqual(stamp_of(steps, 0), (((1, 0), 0), (0, (0, 1, 0), 0)))
        self.assertEqual(stamp_of(steps + (("join", 2, 0),), 2), (1, (0, (0, 1, 0), 1)))
        self.assertEqual(heard(steps + (("join", 2, 0),), 2), (0, 1))

    def test_lose(self):
        steps = (FORK, ("deed", 1), ("hear", 0, 1), ("lose", 1))
        self.assertEqual(marks(steps), (0,))
        self.assertEqual(stamp_of(steps, 0), ((1, 0), (0, 0, 1)))
        self.assertEqual(deeds(steps), [1])
        self.assertEqual(marks((FORK, ("lose", 0))), (1,))

    def test_marks_are_never_given_again(self):
        steps = (FORK, ("lose", 1), FORK, ("join", 0, 2), FORK)
        self.assertEqual(marks(steps), (0, 3))
        self.assertEqual(marks((FORK, ("lose", 0), ("fork", 1), ("fork", 2))), (1, 2, 3))

    def test_a_filled_deed(self):
        steps = (FORK, ("deed", 1), ("deed", 1), ("hear", 0, 1), DEED)
        self.assertEqual(stamp_of(steps, 0), ((1, 0), 2))

    def test_against_the_model(self):
        for history, model in some_histories():
            self.assertIs(is_history(history), True)
            self.assertEqual(marks(history), tuple(sorted(model.shares)))
            self.assertEqual(deeds(history), model.doers)
            for mark in marks(history):
                stamp = (share_of(model.shares[mark]), counts_of(model.counts[mark]))
                self.assertEqual(stamp_of(history, mark), stamp)
                self.assertEqual(heard(history, mark), tuple(sorted(model.heard[mark])))
            for count in range(1, len(model.doers) + 1):
                self.assertEqual(known_at(history, count), model.known[count - 1])

    def test_a_history_that_goes_wrong(self):
        for at, (history, model) in enumerate(some_histories()):
            spoiled = history + (("deed", model.next_mark), DEED)
            cut = at % (len(history) + 1)
            for steps, index in ((spoiled, len(history)), (history[:cut] + (("hear", 0, 0),) + history[cut:], cut)):
                with self.assertRaises(InvalidHistory) as caught:
                    marks(steps)
                self.assertEqual(caught.exception.index, index)


class Answers(unittest.TestCase):

    def test_kinds(self):
        steps = (FORK, DEED, ("deed", 1), ("hear", 0, 1))
        self.assertIs(type(marks(steps)), tuple)
        self.assertIs(type(stamp_of(steps, 0)), tuple)
        self.assertIs(type(heard(steps, 0)), tuple)
        self.assertIs(type(deeds(steps)), list)
        self.assertIs(type(known_at(steps, 1)), tuple)

    def test_lots_ascend(self):
        steps = (FORK, DEED, ("deed", 1), DEED, ("hear", 1, 0), ("deed", 1), ("hear", 0, 1))
        self.assertEqual(heard(steps, 0), (0, 1, 2, 3))
        self.assertEqual(known_at(steps, 4), (0, 1, 2, 3))
        twice = (FORK, FORK, ("deed", 2), ("hear", 1, 2), ("hear", 0, 1), ("hear", 0, 2))
        self.assertEqual(heard(twice, 0), (0,))

    def test_the_list_of_deeds_is_new(self):
        steps = (DEED, DEED)
        first = deeds(steps)
        first.append(7)
        self.assertEqual(deeds(steps), [0, 0])

    def test_known_at(self):
        steps = (FORK, DEED, ("deed", 1), ("hear", 0, 1), DEED, ("hear", 1, 0), ("lose", 0), ("deed", 1))
        self.assertEqual([known_at(steps, count) for count in (1, 2, 3, 4)], [(0,), (1,), (0, 1, 2), (0, 1, 2, 3)])

    def test_known_at_of_no_deed(self):
        steps = (FORK, DEED, ("deed", 1))
        for count in (0, -1, 3, 4, 10 ** 89, True, False, None, "1", "", [1], [], (1,), (), deep(40), "a" * 20000):
            with self.subTest(count), self.assertRaises(InvalidCount):
                known_at(steps, count)
        self.assertRaises(InvalidCount, known_at, (), 1)
        self.assertRaises(InvalidCount, known_at, (FORK,), 0)

    def test_marks_of_no_copy(self):
        steps = (FORK, FORK, ("lose", 1))
        wrong = [1, 3, -1, 10 ** 89, True, False, None, "0", "", [], [0], (), (0,), ("fork", 0), deep(40)]
        for mark in wrong + strange_values():
            with self.subTest(mark):
                self.assertRaises(InvalidMark, stamp_of, steps, mark)
                self.assertRaises(InvalidMark, heard, steps, mark)
        self.assertRaises(InvalidMark, heard, (), 1)
        self.assertRaises(InvalidMark, stamp_of, (FORK, ("lose", 0)), 0)

    def test_errors_of_the_history_first(self):
        bad = (FORK, None)
        for call in (stamp_of, heard, known_at):
            for value in (None, True, 9, -1, "x", (0,)):
                with self.assertRaises(InvalidHistory) as caught:
                    call(bad, value)
                self.assertEqual(caught.exception.index, 1)


if __name__ == "__main__":
    unittest.main()
