"""The facts C1 to C4 and D1 to D4."""

import unittest
from itertools import permutations

from heirstamps.counts import is_within, joined
from heirstamps.futures import are_alike, cover_table, is_parting, least_covers, parting
from heirstamps.histories import deeds, heard, is_history, marks, stamp_of
from heirstamps.meetings import (
    fewest_steps, flattest_peak, flattest_plan, gathering, is_join_plan, knows_all, plan_peak, shortest_plan,
)
from heirstamps.shares import united
from tests.plain import all_lots, fewest_hears, heard_behind, join_plans
from tests.support import Chance, some_histories, some_history, tuples_in

FORK = ("fork", 0)


def listed(table, lot, mark):
    """Whether a lot covers the copy, as the least lots of a cover table tell it."""
    return any(set(least) <= set(lot) for least in dict(table)[mark])


def some_even(seed, copies, length):
    """A history of forks, and then of deeds and of hear steps."""
    chance = Chance(seed)
    steps = [("fork", chance.below(mark)) for mark in range(1, copies)]
    for _ in range(length):
        one, other = chance.below(copies), chance.below(copies)
        steps.append(("deed", one) if one == other else ("hear", one, other))
    return tuple(steps)


def some_future(history, seed, length):
    """Steps that can be done behind the history, of all kinds."""
    chance = Chance(seed)
    steps = ()
    while len(steps) < length:
        there = marks(history + steps)
        step = (chance.one_of(("fork", "deed", "deed", "lose")), chance.one_of(there))
        if chance.below(2):
            step = (chance.one_of(("hear", "hear", "join")), chance.one_of(there), chance.one_of(there))
        if is_history(history + steps + (step,)):
            steps += (step,)
    return steps


class C1(unittest.TestCase):

    def test_cover_tables(self):
        answers = {True: 0, False: 0}
        for copies, length in ((2, 3), (3, 5), (4, 8), (6, 16)):
            for seed in range(25):
                one = some_even(seed, copies, length)
                for other in [one + (("deed", mark),) for mark in range(copies)] + [some_even(seed + 60, copies, length)]:
                    alike = are_alike(one, other)
                    answers[alike] += 1
                    self.assertIs(cover_table(one) == cover_table(other), alike)
                    self.assertIs(parting(one, other) is None, alike)
                    if not alike:
                        self.look_at_steps(one, other, copies)
        self.assertGreater(min(answers.values()), 20)

    def look_at_steps(self, one, other, copies):
        """There are hear steps of one copy alone that part the histories, fewer than there are copies less one."""
        steps, mark, other_mark = parting(one, other)
        found = [steps] if len({step[1] for step in steps}) < 2 else []
        if not found:
            for member in marks(one):
                for lot in all_lots([left for left in marks(one) if left != member])[:2 ** (copies - 1)]:
                    hears = tuple(("hear", member, left) for left in lot)
                    if len(lot) < copies - 1 and any(is_parting(one, other, (hears, member, left)) for left in marks(one)):
                        found.append(hears)
        self.assertTrue(any(len(hears) < max(copies - 1, 1) for hears in found))
        self.assertIs(is_parting(one, other, (steps, mark, other_mark)), True)


class C2(unittest.TestCase):

    def test_each_copy_covers_itself(self):
        for history, _ in some_histories():
            for mark, lots in cover_table(history):
                self.assertIn((mark,), lots)

    def test_more_copies_and_lots_that_cover_lots(self):
        for history, model in some_histories()[::6]:
            table = cover_table(history)
            lots = all_lots(sorted(model.heard))[1:]
            for mark in model.heard:
                for lot in lots:
                    together = set().union(*[model.heard[member] for member in lot])
                    self.assertIs(listed(table, lot, mark), model.heard[mark] <= together)
            for lot in lots[::5]:
                for other in lots[::7]:
                    if all(listed(table, lot, member) for member in other):
                        for mark in model.heard:
                            self.assertTrue(listed(table, lot, mark) or not listed(table, other, mark))


class C3(unittest.TestCase):

    def test_they_stay_alike(self):
        for seed in range(40):
            one = some_even(seed, 2 + seed % 4, 8)
            # Each deed done twice and three times makes other counts, but no other standing.
            other = tuple(step for step in one for _ in range(1 + (step[0] == "deed")))
            self.assertIs(are_alike(one, other), True)
            for length in range(1, 9):
                steps = some_future(one, seed * 9 + length, length)
                self.assertIs(is_history(other + steps), True)
                self.assertIs(are_alike(one + steps, other + steps), True)

    def test_with_unlike_numbers_of_deeds_and_unlike_stamps(self):
        one = (FORK, ("fork", 1), ("deed", 0), ("join", 1, 2))
        other = (FORK, FORK, ("deed", 0), ("deed", 0), ("join", 1, 2))
        self.assertIs(are_alike(one, other), True)
        self.assertNotEqual(len(deeds(one)), len(deeds(other)))
        self.assertNotEqual(stamp_of(one, 0)[0], stamp_of(other, 0)[0])
        self.assertNotEqual(stamp_of(one, 0)[1], stamp_of(other, 0)[1])


class C4(unittest.TestCase):

    def test_covering_by_counts(self):
        answers = {True: 0, False: 0}
        for history, _ in some_histories()[::4]:
            there = marks(history)
            table = cover_table(history)
            counts = {mark: stamp_of(history, mark)[1] for mark in there}
            for lot in all_lots(there)[1::2]:
                together = 0
                for member in lot:
                    together = joined(together, counts[member])
                for mark in there:
                    answer = is_within(counts[mark], together)
                    self.assertIs(listed(table, lot, mark), answer)
                    answers[answer] += 1
        self.assertGreater(min(answers.values()), 100)

    def test_least_covers_by_counts(self):
        history = (FORK, FORK, ("deed", 0), ("deed", 1), ("hear", 2, 0), ("hear", 2, 1))
        self.assertEqual(least_covers(history, 2), [(2,), (0, 1)])
        counts = [stamp_of(history, mark)[1] for mark in range(3)]
        self.assertIs(is_within(counts[2], joined(counts[0], counts[1])), True)
        self.assertIs(is_within(counts[2], counts[0]), False)


class D1(unittest.TestCase):

    def test_gathering(self):
        sizes = set()
        for history, model in some_histories():
            if len(model.heard) > 4:
                continue
            union = set().union(*model.heard.values())
            for mark in model.heard:
                fewest = fewest_hears(model.heard, lambda told: told[mark] == union)
                self.assertEqual(len(gathering(history, mark)), fewest)
                sizes.add(fewest)
        self.assertTrue({0, 1, 2} <= sizes)


class D2(unittest.TestCase):

    def test_bounds(self):
        fewest_seen = set()
        for seed in range(200):
            history, model = some_history(seed, 16, ("fork", "fork", "deed", "deed", "deed", "hear", "join", "lose"), 7)
            many = len(model.heard)
            if many > 4:
                continue
            fewest = fewest_steps(history)
            fewest_seen.add(fewest)
            self.assertIs(fewest == 0, knows_all(history) == marks(history))
            self.assertLessEqual(fewest, 2 * many - 2)
            own = [model.heard[mark].difference(*[model.heard[other] for other in model.heard if other != mark])
                   for mark in model.heard]
            if many >= 2 and all(own):
                self.assertEqual(fewest, 2 * many - 2)
        self.assertTrue({0, 1, 2, 3, 4} <= fewest_seen)

    def test_each_with_a_deed_of_its_own(self):
        for many in (2, 3, 4):
            history = (FORK,) * (many - 1) + tuple(("deed", mark) for mark in range(many))
            self.assertEqual(fewest_steps(history), 2 * many - 2)
            self.assertEqual(len(shortest_plan(history)), 2 * many - 2)


class D3(unittest.TestCase):

    def test_join_plans(self):
        unlike = 0
        for seed in range(90):
            history, model = some_history(seed, 14, ("fork", "fork", "deed", "deed", "hear", "join"), 7)
            if len(model.heard) > 4:
                continue
            lots, peaks = set(), set()
            for plan in join_plans(sorted(model.heard)):
                self.assertEqual(len(plan), len(model.heard) - 1)
                self.assertIs(is_join_plan(history, plan), True)
                end = history + plan
                self.assertEqual(len(marks(end)), 1)
                self.assertEqual(stamp_of(end, marks(end)[0])[0], 1)
                lots.add(heard(end, marks(end)[0]))
                peaks.add(plan_peak(history, plan))
            self.assertEqual(len(lots), 1)
            self.assertEqual(min(peaks), flattest_peak(history))
            unlike += len(peaks) > 1
        self.assertGreater(unlike, 5)

    def test_of_eight_copies(self):
        history = tuple(("fork", mark // 2) for mark in range(7))
        plan = flattest_plan(history)
        self.assertEqual(len(plan), 7)
        self.assertEqual(stamp_of(history + plan, plan[-1][1]), (1, 0))


class D4(unittest.TestCase):

    def test_each_join_makes_less(self):
        def total(history):
            return sum(tuples_in(stamp_of(history, mark)[0]) for mark in marks(history))
        for history, _ in some_histories()[::5]:
            ahead = total(history)
            for one, other in permutations(marks(history), 2):
                if len(history) < 60:
                    self.assertLess(total(history + (("join", one, other),)), ahead)

    def test_by_united(self):
        for history, model in some_histories()[::5]:
            shares = {mark: stamp_of(history, mark)[0] for mark in marks(history)}
            for one, other in permutations(shares, 2):
                apart = tuples_in(shares[one]) + tuples_in(shares[other])
                self.assertLess(tuples_in(united(shares[one], shares[other])), apart)
            self.assertEqual(heard_behind(model.heard, ()), model.heard)


if __name__ == "__main__":
    unittest.main()
