"""[17]: which copies cover which, and which histories are alike for every future."""

import unittest
from itertools import permutations

from heirstamps.errors import InvalidHistory, InvalidMark, Refused
from heirstamps.futures import are_alike, cover_table, is_parting, least_covers, parting
from tests.plain import covering, heard_behind, least_covers_of, steps_of
from tests.support import Chance, deep, some_histories, some_history, strange_values

FORK = ("fork", 0)
BOTH = (FORK, ("deed", 0), ("deed", 1))
EIGHT = (FORK,) * 7
# Twelve forks of copy 0, behind each of which the further copy goes: its share cannot be halved once more.
TWELVE_HALVES = tuple(step for mark in range(1, 13) for step in (FORK, ("lose", mark)))


def same_ending(seed, copies, length):
    """A history of so many copies, forked at its beginning, and then of deeds and of hear steps."""
    chance = Chance(seed)
    steps = [("fork", chance.below(mark)) for mark in range(1, copies)]
    for _ in range(length):
        one = chance.below(copies)
        other = chance.below(copies)
        steps.append(("deed", one) if one == other else chance.one_of([("hear", one, other), ("deed", one)]))
    return tuple(steps)


def near(history):
    """Histories with the same forks: with each deed done twice, with a deed more, and without one of the last steps."""
    twice = tuple(step for step in history for _ in range(1 + (step[0] == "deed")))
    copies = 1 + len([step for step in history if step[0] == "fork"])
    return [twice] + [history + (("deed", mark),) for mark in range(copies)] + [
        history[:at] + history[at + 1:] for at in range(copies - 1, len(history))]


def heard_of(history):
    """What the copies of a history of forks, deeds and hear steps have heard."""
    heard = {0: set()}
    count = 0
    for step in history:
        if step[0] == "fork":
            heard[len(heard)] = set(heard[step[1]])
        if step[0] == "deed":
            heard[step[1]].add(count)
            count += 1
        if step[0] == "hear":
            heard[step[1]] |= heard[step[2]]
    return heard


def look(heard, mark, other):
    """Whether the copy has heard all that the other one has."""
    return heard[other] <= heard[mark]


class LeastCovers(unittest.TestCase):

    def test_nothing_heard(self):
        self.assertEqual(least_covers((), 0), [(0,)])
        self.assertEqual(least_covers((FORK, FORK), 1), [(0,), (1,), (2,)])
        self.assertEqual(least_covers((FORK, FORK, ("deed", 0)), 1), [(0,), (1,), (2,)])
        self.assertEqual(least_covers((FORK, FORK, ("deed", 0)), 0), [(0,)])

    def test_lots_of_two(self):
        steps = (FORK, FORK, FORK, ("deed", 0), ("deed", 1), ("hear", 2, 0), ("hear", 2, 1), ("hear", 3, 0))
        self.assertEqual(least_covers(steps, 2), [(2,), (0, 1), (1, 3)])
        self.assertEqual(least_covers(steps, 0), [(0,), (2,), (3,)])
        self.assertEqual(least_covers(steps, 1), [(1,), (2,)])
        self.assertEqual(cover_table(steps), [(0, [(0,), (2,), (3,)]), (1, [(1,), (2,)]), (2, [(2,), (0, 1), (1, 3)]),
                                              (3, [(0,), (2,), (3,)])])

    def test_deeds_that_no_one_there_did(self):
        steps = (FORK, FORK, ("deed", 2), ("hear", 1, 2), ("deed", 2), ("hear", 0, 2), ("lose", 2))
        self.assertEqual(cover_table(steps), [(0, [(0,)]), (1, [(0,), (1,)])])

    def test_against_a_plain_search(self):
        sizes = set()
        for history, model in some_histories():
            table = cover_table(history)
            self.assertEqual([mark for mark, _ in table], sorted(model.heard))
            for mark, lots in table:
                self.assertEqual(lots, least_covers_of(model.heard, mark))
                self.assertEqual(least_covers(history, mark), lots)
                sizes.update(len(lot) for lot in lots)
        self.assertTrue({1, 2, 3} <= sizes)

    def test_seven_that_cover_one(self):
        steps = EIGHT + tuple(("deed", mark) for mark in range(1, 8)) + tuple(("hear", 0, mark) for mark in range(1, 8))
        self.assertEqual(least_covers(steps, 0), [(0,), (1, 2, 3, 4, 5, 6, 7)])
        self.assertEqual(least_covers(steps, 5), [(0,), (5,)])

    def test_kinds(self):
        self.assertIs(type(least_covers(BOTH, 0)), list)
        self.assertIs(type(least_covers(BOTH, 0)[0]), tuple)
        self.assertIs(type(cover_table(BOTH)), list)
        self.assertEqual([type(part) for part in cover_table(BOTH)[0]], [int, list])

    def test_lists_are_new(self):
        told = cover_table((FORK,))
        told[0][1].append("more")
        told.append("more")
        self.assertEqual(cover_table((FORK,)), [(0, [(0,), (1,)]), (1, [(0,), (1,)])])
        told = cover_table((FORK,))
        told[0][1].append("more")
        self.assertEqual(told[1], (1, [(0,), (1,)]))
        least_covers((FORK,), 0).append("more")
        self.assertEqual(least_covers((FORK,), 0), [(0,), (1,)])

    def test_marks_of_no_copy(self):
        for mark in [2, 3, -1, True, False, None, "0", (0,), [0], 10 ** 89] + strange_values():
            with self.subTest(mark):
                self.assertRaises(InvalidMark, least_covers, BOTH, mark)
        self.assertRaises(InvalidMark, least_covers, (FORK, ("lose", 1)), 1)
        self.assertRaises(InvalidMark, least_covers, (FORK, ("join", 1, 0)), 0)


class AreAlike(unittest.TestCase):

    def test_histories(self):
        late = BOTH[:2] + (("deed", 0), ("deed", 1), ("deed", 0))
        for one, other, answer in (((), (), True), ((), (("deed", 0),), True), (BOTH, late, True),
                                   (BOTH, BOTH[:2], False), (BOTH[:2], BOTH[:1], False),
                                   (BOTH, (FORK, ("deed", 1), ("deed", 0)), True),
                                   ((FORK, ("deed", 0)), (FORK, ("deed", 1)), False),
                                   (BOTH + (("hear", 0, 1),), BOTH + (("hear", 1, 0),), False),
                                   (BOTH + (("hear", 0, 1), ("hear", 1, 0)), (("deed", 0), FORK), True)):
            with self.subTest(one=one, other=other):
                self.assertIs(are_alike(one, other), answer)
                self.assertIs(are_alike(other, one), answer)

    def test_histories_that_are_not_even(self):
        for one, other in (((), (FORK,)), ((FORK,), (FORK, FORK)), ((FORK, ("lose", 0)), (FORK, ("lose", 1))),
                           ((FORK, ("join", 0, 1)), (FORK, ("join", 1, 0)))):
            self.assertIs(are_alike(one, other), False)
            self.assertIs(are_alike(other, one), False)

    def test_unlike_in_the_next_mark_alone(self):
        one, other = (), (FORK, ("join", 0, 1))
        for pair in ((one, other), (other, one)):
            self.assertIs(are_alike(*pair), False)
            self.assertRaises(Refused, parting, *pair)
            for value in (((), 0, 0), None, ((), 0, 1)):
                self.assertRaises(Refused, is_parting, *pair, value)
        self.assertIs(are_alike(other, (FORK, ("lose", 1), ("deed", 0))), True)

    def test_unlike_shares_and_counts(self):
        one = (FORK, ("fork", 1), ("join", 1, 2), ("deed", 0))
        other = (FORK, FORK, ("join", 0, 2), ("deed", 0), ("deed", 0))
        self.assertIs(are_alike(one, other), True)
        self.assertIsNone(parting(one, other))

    def test_the_document_s_words_in_all_short_futures(self):
        answers = []
        for copies, length, seeds in ((2, 4, 12), (3, 6, 14)):
            for seed in range(seeds):
                one = same_ending(seed, copies, length)
                for other in near(one) + [same_ending(seed + 50, copies, length)]:
                    answer = are_alike(one, other)
                    answers.append(answer)
                    self.assertIs(answer, self.no_short_future_parts(heard_of(one), heard_of(other), 2))
        self.assertTrue(20 < answers.count(True) < len(answers) - 20)

    def no_short_future_parts(self, heard, other_heard, left):
        """Whether each look has the same answer behind each future of at most so many steps."""
        for mark, other in permutations(sorted(heard), 2):
            if look(heard, mark, other) != look(other_heard, mark, other):
                return False
        if left == 0:
            return True
        for step in steps_of(heard, ("fork", "deed", "hear", "join")):
            later = [heard_behind(told, (step,)) for told in (heard, other_heard)]
            # Marks of what comes by a fork must not meet those of later forks.
            if step[0] == "fork" and 100 in heard:
                continue
            if not self.no_short_future_parts(later[0], later[1], left - 1):
                return False
        return True


class Parting(unittest.TestCase):

    def test_alike(self):
        self.assertIsNone(parting((), ()))
        self.assertIsNone(parting((), (("deed", 0),) * 3))
        self.assertIsNone(parting(BOTH, (FORK, ("deed", 1), ("deed", 1), ("deed", 0))))

    def test_it_fits_its_description(self):
        steps_seen = set()
        for copies, length in ((2, 4), (3, 7), (4, 10), (5, 14), (8, 30)):
            for seed in range(10):
                one = same_ending(seed, copies, length)
                for other in near(one) + [same_ending(seed + 70, copies, length)]:
                    told = parting(one, other)
                    self.assertEqual(told is None, are_alike(one, other))
                    if told is not None:
                        self.look_at(told, one, other)
                        steps_seen.add(len(told[0]))
        self.assertTrue({0, 1} <= steps_seen, steps_seen)

    def test_lots_that_must_be_gathered(self):
        for copies in range(3, 9):
            forks = (FORK,) * (copies - 1)
            deeds = tuple(("deed", mark) for mark in range(copies - 1))
            hears = tuple(("hear", copies - 1, mark) for mark in range(copies - 1))
            one, other = forks + deeds + hears, forks + deeds + hears + (("deed", copies - 1),)
            told = parting(one, other)
            self.look_at(told, one, other)
            self.assertEqual(len(told[0]), copies - 2)

    def look_at(self, told, one, other):
        self.assertIs(type(told), tuple)
        steps, mark, other_mark = told
        self.assertIs(type(steps), tuple)
        self.assertNotEqual(mark, other_mark)
        self.assertTrue(all(step in steps_of(heard_of(one), ("hear",)) for step in steps))
        answers = [look(heard_behind(heard_of(history), steps), mark, other_mark) for history in (one, other)]
        self.assertNotEqual(answers[0], answers[1])
        self.assertIs(is_parting(one, other, told), True)
        self.assertIs(is_parting(other, one, told), True)

    def test_the_same_when_told_again(self):
        for seed in range(12):
            one, other = same_ending(seed, 5, 14), same_ending(seed + 40, 5, 14)
            self.assertEqual(parting(one, other), parting(tuple(list(one)), tuple(list(other))))

    def test_refused(self):
        for one, other in ((BOTH, ()), ((), BOTH), ((FORK, ("lose", 0)), (FORK, ("lose", 1)))):
            self.assertRaises(Refused, parting, one, other)
            for value in (None, ((), 0, 1), True, ((), 0, 0), "", deep(40)):
                self.assertRaises(Refused, is_parting, one, other, value)


class IsParting(unittest.TestCase):

    def test_looks_at_once(self):
        one, other = BOTH, BOTH[:2]
        # Copy 1 has done a deed behind the first one alone; copy 0 behind both.
        for value, answer in ((((), 0, 1), True), (((), 1, 0), False), (((("hear", 0, 1),), 0, 1), False),
                              (((("hear", 0, 1),), 1, 0), False), (((("hear", 1, 0),), 0, 1), True),
                              (((("deed", 0),), 0, 1), True), (((("deed", 1),), 0, 1), False)):
            with self.subTest(value):
                self.assertIs(is_parting(one, other, value), answer)
                self.assertIs(is_parting(other, one, value), answer)

    def test_all_kinds_of_steps(self):
        one, other = BOTH, BOTH[:2]
        for steps, marks, answer in (((("fork", 1),), (0, 2), True), ((("fork", 0),), (2, 1), True),
                                     ((("fork", 1), ("lose", 1)), (0, 2), True), ((("fork", 1), ("join", 1, 2)), (0, 1), True),
                                     ((("fork", 0), ("join", 1, 0)), (2, 1), True), ((("fork", 0), ("join", 1, 0)), (1, 2), False),
                                     ((("fork", 1), ("fork", 2), ("lose", 1)), (0, 3), True),
                                     ((("fork", 1), ("deed", 2)), (0, 1), True), ((("fork", 1), ("deed", 2)), (0, 2), False)):
            with self.subTest(steps, marks=marks):
                self.assertIs(is_parting(one, other, (steps,) + marks), answer)

    def test_alike_histories_have_none(self):
        late = BOTH + (("deed", 0), ("deed", 1))
        for value in (((), 0, 1), ((), 1, 0), ((("hear", 0, 1),), 0, 1), ((("fork", 1),), 0, 2)):
            self.assertIs(is_parting(BOTH, late, value), False)

    def test_steps_that_cannot_be_done(self):
        one, other = BOTH, BOTH[:2]
        for steps in ((("hear", 0, 0),), (("hear", 0, 2),), (("deed", 2),), (("lose", 3),), (("fork", True),),
                      (("hear", False, 1),), (("fork", 1), ("deed", 3)), (("lose", 0), ("lose", 1)),
                      (("lose", 0), ("deed", 0)), (None,), ((),), ("fork",), (["fork", 1],), (("fork",),),
                      (("fork", 1, 0),), (("look", 0),), [("fork", 1)], [], None, "", 0, True, ("deed", 0),
                      (("hear", 0, 1), None), (("join", 0, 1), ("hear", 0, 1))):
            for marks in ((0, 1), (0, 2)):
                with self.subTest(steps, marks=marks):
                    self.assertIs(is_parting(one, other, (steps,) + marks), False)

    def test_a_ninth_copy(self):
        one, other = EIGHT + (("deed", 1),), EIGHT
        self.assertIs(is_parting(one, other, ((), 0, 1)), True)
        self.assertIs(is_parting(one, other, ((FORK,), 0, 1)), False)
        self.assertIs(is_parting(one, other, ((("lose", 7), FORK), 0, 1)), True)
        self.assertIs(is_parting(one, other, ((("lose", 7), FORK, FORK), 0, 1)), False)
        self.assertIs(is_parting(one, other, ((("join", 0, 7), FORK), 8, 1)), True)

    def test_sixty_steps_and_sixty_one(self):
        one, other = BOTH, BOTH[:2]
        for many, answer in ((59, True), (60, True), (61, False), (3000 // 3, False)):
            self.assertIs(is_parting(one, other, ((("deed", 0),) * many, 0, 1)), answer)
        # Sixty of its own, also behind a history of sixty.
        long_one, long_other = (FORK,) + (("deed", 1),) * 59, (FORK,) + (("deed", 0),) * 59
        self.assertIs(is_parting(long_one, long_other, ((("deed", 0),) * 60, 0, 1)), True)
        self.assertIs(is_parting(long_one, long_other, ((("deed", 0),) * 61, 0, 1)), False)

    def test_shares_are_not_looked_at(self):
        one = TWELVE_HALVES[:-1] + (("deed", 12),)
        other = TWELVE_HALVES[:-1]
        self.assertIs(is_parting(one, other, ((), 0, 12)), True)
        self.assertIs(is_parting(one, other, ((("fork", 0), ("fork", 13), ("fork", 12)), 14, 15)), True)

    def test_marks(self):
        one, other = BOTH, BOTH[:2]
        for marks in ((0, 0), (1, 1), (0, 2), (2, 1), (-1, 1), (0, True), (False, 1), (0, None), ("0", 1), (0, [1]),
                      ((0,), 1), (0, 10 ** 89)):
            with self.subTest(marks):
                self.assertIs(is_parting(one, other, ((),) + marks), False)
        self.assertIs(is_parting(one, other, ((("lose", 1),), 0, 1)), False)
        self.assertIs(is_parting(one, other, ((("join", 0, 1),), 0, 1)), False)

    def test_other_values(self):
        for value in strange_values() + [(), ((),), ((), 0), ((), 0, 1, 0), [(), 0, 1], ((), (0, 1)), "()01", 5,
                                         (0, 1, ()), deep(40), ((), 0, 1, None)]:
            with self.subTest(value):
                self.assertIs(is_parting(BOTH, BOTH[:2], value), False)

    def test_against_plain_looks(self):
        chance = Chance(99)
        answers = []
        for seed in range(60):
            one, other = same_ending(seed, 4, 9), same_ending(seed + 100, 4, 9)
            steps = tuple(chance.one_of(steps_of(range(4), ("hear", "deed"))) for _ in range(chance.below(4)))
            for mark, other_mark in permutations(range(4), 2):
                told = [look(heard_behind(heard_of(history), steps), mark, other_mark) for history in (one, other)]
                answers.append(is_parting(one, other, (steps, mark, other_mark)))
                self.assertIs(answers[-1], told[0] != told[1])
        self.assertTrue(50 < answers.count(True) < len(answers) - 50)


class Errors(unittest.TestCase):

    def test_histories_in_their_sequence(self):
        bad, worse = (FORK, None), (None,)
        for call in (lambda *pair: are_alike(*pair), lambda *pair: parting(*pair),
                     lambda *pair: is_parting(*pair, None)):
            for one, other, index in ((bad, (), 1), ((), bad, 1), (bad, worse, 1), (worse, bad, 0), (None, bad, 0)):
                with self.subTest(one=one, other=other), self.assertRaises(InvalidHistory) as caught:
                    call(one, other)
                self.assertEqual(caught.exception.index, index)

    def test_histories_ahead_of_marks(self):
        for value in (None, [], "f0", (None,), (FORK, ("deed", 2))):
            self.assertRaises(InvalidHistory, least_covers, value, 0)
            self.assertRaises(InvalidHistory, least_covers, value, None)
            self.assertRaises(InvalidHistory, cover_table, value)


class Covering(unittest.TestCase):

    def test_a_lot_is_listed_just_if_it_covers_and_nothing_less_does(self):
        history, model = some_history(7, 50, ("fork", "fork", "fork", "deed", "deed", "hear", "hear"), 7)
        for mark, lots in cover_table(history):
            for lot in lots:
                self.assertTrue(covering(model.heard, lot, mark))
                for left_out in lot:
                    less = tuple(member for member in lot if member != left_out)
                    self.assertFalse(less and covering(model.heard, less, mark))


if __name__ == "__main__":
    unittest.main()
