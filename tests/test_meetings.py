"""[18]: meetings, hear plans and join plans."""

import unittest
from functools import lru_cache
from itertools import combinations

from heirstamps.errors import InvalidHistory, InvalidMark, InvalidPlan, TooMany
from heirstamps.meetings import (
    fewest_steps, first_meeting, flattest_peak, flattest_plan, gathering, is_hear_plan, is_join_plan, knows_all,
    plan_peak, shortest_plan,
)
from tests.plain import all_lots, covering, fewest_hears, heard_behind, join_plans
from tests.support import Chance, deep, share_of, some_histories, some_history, strange_values, tuples_in

FORK = ("fork", 0)
BOTH = (FORK, ("deed", 0), ("deed", 1))
THREE = (FORK, ("fork", 1), ("deed", 0), ("deed", 1), ("deed", 2))
EIGHT = (FORK,) * 7
EACH = {many: (FORK,) * (many - 1) + tuple(("deed", mark) for mark in range(many)) for many in range(1, 9)}
# Twelve forks of copy 0, behind each of which the further copy goes.
TWELVE_HALVES = tuple(step for mark in range(1, 13) for step in (FORK, ("lose", mark)))


def all_the_same(heard):
    """Whether each copy has heard what any has."""
    return len({frozenset(lot) for lot in heard.values()}) == 1


@lru_cache(maxsize=None)
def small_histories(most, least=1):
    """Pairs of a history and its model, with so many copies at the end."""
    found = []
    for seed in range(250):
        names = ("fork", "fork", "deed", "deed", "deed", "hear", "join", "lose")
        history, model = some_history(seed, 6 + seed % 18, names, 7)
        if least <= len(model.shares) <= most:
            found.append((history, model))
    return found


def plain_plan_peak(model, plan):
    """The peak of a join plan by cells."""
    rows = {mark: list(row) for mark, row in model.shares.items()}
    sizes = [tuples_in(share_of(row)) for row in rows.values()]
    for _, mark, gone in plan:
        rows[mark] = [a + b for a, b in zip(rows[mark], rows.pop(gone))]
        sizes.extend(tuples_in(share_of(row)) for row in rows.values())
    return max(sizes)


class Gathering(unittest.TestCase):

    def test_histories(self):
        for history, mark, lot in (((), 0, ()), ((FORK,), 1, ()), (BOTH, 0, (1,)), (BOTH, 1, (0,)), (BOTH[:2], 0, ()),
                                   (BOTH[:2], 1, (0,)), (THREE, 1, (0, 2)), (THREE + (("hear", 2, 1),), 0, (2,)),
                                   (THREE + (("hear", 2, 1), ("hear", 2, 0)), 0, (2,)), (EACH[8], 3, (0, 1, 2, 4, 5, 6, 7)),
                                   (THREE + (("hear", 2, 1), ("hear", 2, 0)), 2, ()), (EIGHT, 5, ())):
            with self.subTest(history, mark=mark):
                self.assertEqual(gathering(history, mark), lot)

    def test_against_a_plain_search(self):
        sizes = set()
        for history, model in some_histories():
            for mark in model.heard:
                others = [other for other in model.heard if other != mark]
                lots = [lot for lot in all_lots(others)
                        if all(covering(model.heard, lot + (mark,), one) for one in model.heard)]
                self.assertEqual(gathering(history, mark), lots[0])
                sizes.add(len(lots[0]))
        self.assertTrue({0, 1, 2, 3} <= sizes)

    def test_marks_of_no_copy(self):
        for mark in [2, -1, True, None, "0", (0,), [], 10 ** 89] + strange_values():
            with self.subTest(mark):
                self.assertRaises(InvalidMark, gathering, BOTH, mark)
        self.assertRaises(InvalidMark, gathering, (FORK, ("lose", 0)), 0)


class KnowsAll(unittest.TestCase):

    def test_histories(self):
        for history, lot in (((), (0,)), ((FORK,), (0, 1)), (BOTH, ()), (BOTH[:2], (0,)), (EIGHT, tuple(range(8))),
                             (BOTH + (("hear", 1, 0),), (1,)), (THREE + (("lose", 0), ("hear", 2, 1)), (2,)),
                             (BOTH + (("hear", 1, 0), ("hear", 0, 1)), (0, 1))):
            with self.subTest(history):
                self.assertEqual(knows_all(history), lot)

    def test_against_the_model(self):
        sizes = set()
        for history, model in some_histories():
            union = set().union(*model.heard.values())
            told = tuple(mark for mark in sorted(model.heard) if model.heard[mark] == union)
            self.assertEqual(knows_all(history), told)
            sizes.add(len(told))
        self.assertTrue({0, 1, 2, 3} <= sizes)


class HearPlans(unittest.TestCase):

    def test_plans(self):
        hear, back = ("hear", 0, 1), ("hear", 1, 0)
        for history, plan, answer in (((), (), True), ((FORK,), (), True), (BOTH, (), False), (BOTH, (hear, back), True),
                                      (BOTH, (back, hear), True), (BOTH, (hear,), False), (BOTH, (hear, hear), False),
                                      (BOTH[:2], (back,), True), (BOTH[:2], (hear,), False), (BOTH[:2], (hear, back), True),
                                      ((FORK,), (hear, back, hear), True),
                                      (THREE, (("hear", 1, 2), hear, back, ("hear", 2, 0)), True),
                                      (THREE, (hear, ("hear", 1, 2), back, ("hear", 2, 0)), False)):
            with self.subTest(history, plan=plan):
                self.assertIs(is_hear_plan(history, plan), answer)

    def test_steps_that_are_no_hear_steps_of_copies_that_are_there(self):
        done = (("hear", 0, 1), ("hear", 1, 0))
        for step in (("join", 0, 1), ("deed", 0), ("fork", 0), ("lose", 0), ("hear", 0, 0), ("hear", 0, 2),
                     ("hear", 2, 1), ("hear", True, 0), ("hear", 0, True), ("hear", 0), ("hear", 0, 1, 0), (), None,
                     ["hear", 0, 1], "hear", ("Hear", 0, 1), (0, 1), ("hear", None, 1), deep(40)):
            for plan in (done + (step,), (step,) + done, (step,)):
                with self.subTest(plan):
                    self.assertIs(is_hear_plan(BOTH, plan), False)
        for plan in (list(done), None, True, 0, "", [], "hear", ("hear", 0, 1), done[0]):
            self.assertIs(is_hear_plan(BOTH, plan), False)

    def test_copies_that_have_gone(self):
        history = THREE + (("lose", 2),)
        self.assertIs(is_hear_plan(history, (("hear", 0, 1), ("hear", 1, 0))), True)
        self.assertIs(is_hear_plan(history, (("hear", 0, 1), ("hear", 1, 0), ("hear", 0, 2))), False)

    def test_sixty_steps_and_sixty_one(self):
        hears = (("hear", 0, 1), ("hear", 1, 0)) * 31
        for many, answer in ((2, True), (59, True), (60, True), (61, False), (62, False)):
            self.assertIs(is_hear_plan(BOTH, hears[:many]), answer)
        self.assertIs(is_hear_plan((("deed", 0),) * 60, ()), True)
        self.assertIs(is_hear_plan((FORK,) + (("deed", 0),) * 59, (("hear", 1, 0),) * 60), True)
        self.assertIs(is_hear_plan(BOTH, hears[:2] * 500), False)

    def test_shortest_plans_against_a_plain_search(self):
        counts = set()
        for history, model in small_histories(3) + small_histories(4, 4)[:12]:
            fewest = fewest_hears(model.heard, all_the_same)
            plan = shortest_plan(history)
            self.assertEqual(fewest_steps(history), fewest)
            self.assertEqual(len(plan), fewest)
            self.assertIs(type(plan), tuple)
            self.assertIs(is_hear_plan(history, plan), True)
            self.assertTrue(all_the_same(heard_behind(model.heard, plan)))
            self.assertEqual(shortest_plan(tuple(list(history))), plan)
            counts.add(fewest)
        self.assertTrue({0, 1, 2, 3, 4} <= counts, counts)

    def test_four_copies(self):
        for seed in range(60):
            history, model = some_history(seed, 30, ("fork", "deed", "deed", "hear", "join"), 7)
            if len(model.shares) == 4:
                plan = shortest_plan(history)
                self.assertIs(is_hear_plan(history, plan), True)
                self.assertEqual(len(plan), fewest_steps(history))

    def test_one_copy(self):
        self.assertEqual(shortest_plan(()), ())
        self.assertEqual(fewest_steps((("deed", 0),)), 0)
        self.assertEqual(shortest_plan((FORK, ("lose", 0))), ())

    def test_four_and_five(self):
        self.assertEqual(fewest_steps(EACH[4]), 6)
        self.assertEqual(fewest_steps((FORK,) * 3), 0)
        self.assertEqual(fewest_steps((FORK,) * 4 + (("lose", 2),)), 0)
        for history in (EACH[5], (FORK,) * 4, EIGHT):
            for call in (shortest_plan, fewest_steps):
                with self.assertRaises(TooMany) as caught:
                    call(history)
                self.assertEqual(caught.exception.count, 4)

    def test_what_any_has_heard_is_enough(self):
        # Copy 2 has gone with a deed that no one heard: nobody need hear it.
        history = (FORK, FORK, ("deed", 2), ("deed", 0), ("lose", 2))
        self.assertEqual(fewest_steps(history), 1)
        self.assertEqual(shortest_plan(history), (("hear", 1, 0),))


class JoinPlans(unittest.TestCase):

    def test_plans(self):
        for history, plan, answer in (((), (), True), ((FORK,), (), False), ((FORK,), (("join", 0, 1),), True),
                                      ((FORK,), (("join", 1, 0),), True), ((FORK,), (("join", 1, 0), ("join", 0, 1)), False),
                                      (THREE, (("join", 1, 2),), False), (THREE, (("join", 1, 2), ("join", 0, 1)), True),
                                      (THREE, (("join", 1, 2), ("join", 0, 2)), False),
                                      (THREE, (("join", 1, 2), ("join", 1, 0)), True),
                                      (THREE + (("lose", 1),), (("join", 2, 0),), True)):
            with self.subTest(history, plan=plan):
                self.assertIs(is_join_plan(history, plan), answer)

    def test_all_of_them_are(self):
        for history, model in small_histories(4)[::4]:
            for plan in join_plans(sorted(model.shares)):
                self.assertIs(is_join_plan(history, plan), True)
                self.assertIs(is_join_plan(history, plan[:-1]), len(plan) == 0)
                self.assertIs(is_join_plan(history, plan + plan[-1:]), len(plan) == 0)

    def test_other_values(self):
        for value in strange_values() + [[], None, (None,), (("hear", 0, 1),), (("join", 0, 0),), (("join", 0, 2),),
                                         (("join", True, 0),), (("join", 0),), (["join", 0, 1],), [("join", 0, 1)],
                                         ("join", 0, 1), (("lose", 0),), (("join", 0, 1), None), "join",
                                         (("deed", 0), ("join", 0, 1)), (("fork", 0), ("join", 0, 1), ("join", 0, 2))]:
            with self.subTest(value):
                self.assertIs(is_join_plan((FORK,), value), False)
                self.assertRaises(InvalidPlan, plan_peak, (FORK,), value)
        self.assertIs(is_join_plan((FORK,), (("fork", 0), ("join", 0, 1), ("join", 0, 2))), False)

    def test_peaks(self):
        for history, plan, told in (((), (), 0), ((FORK, ("lose", 1)), (), 1), ((FORK,), (("join", 0, 1),), 1),
                                    (TWELVE_HALVES, (), 12), (THREE, (("join", 0, 2), ("join", 0, 1)), 2),
                                    (THREE, (("join", 1, 2), ("join", 0, 1)), 2),
                                    (EIGHT, tuple(("join", 0, mark) for mark in range(7, 0, -1)), 7),
                                    (EIGHT, tuple(("join", 0, mark) for mark in range(1, 8)), 7),
                                    ((FORK, FORK, ("fork", 1)), (("join", 0, 1), ("join", 0, 2), ("join", 0, 3)), 3),
                                    ((FORK, FORK, ("fork", 1)), (("join", 0, 2), ("join", 0, 1), ("join", 0, 3)), 2)):
            with self.subTest(history, plan=plan):
                self.assertEqual(plan_peak(history, plan), told)

    def test_a_peak_of_a_copy_that_is_not_joined(self):
        # Copy 3 has the deepest share, and is put together last.
        history = (FORK, ("fork", 1), ("fork", 2), ("fork", 3), ("lose", 4))
        self.assertEqual(plan_peak(history, (("join", 0, 1), ("join", 0, 2), ("join", 0, 3))), 4)

    def test_all_plans_against_cells(self):
        unlike = 0
        for history, model in small_histories(4):
            plans = join_plans(sorted(model.shares))
            peaks = [plain_plan_peak(model, plan) for plan in plans]
            self.assertEqual([plan_peak(history, plan) for plan in plans], peaks)
            self.look_at_the_flattest(history, model, min(peaks))
            unlike += len(set(peaks)) > 1
        self.assertGreater(unlike, 20)

    def test_five_copies(self):
        for history, model in small_histories(5, 5)[:3]:
            peaks = [plain_plan_peak(model, plan) for plan in join_plans(sorted(model.shares))]
            self.look_at_the_flattest(history, model, min(peaks))

    def look_at_the_flattest(self, history, model, least):
        self.assertEqual(flattest_peak(history), least)
        plan = flattest_plan(history)
        self.assertIs(type(plan), tuple)
        self.assertIs(is_join_plan(history, plan), True)
        self.assertEqual(plan_peak(history, plan), least)
        self.assertEqual(plain_plan_peak(model, plan), least)
        self.assertEqual(flattest_plan(tuple(list(history))), plan)

    def test_one_copy(self):
        for history, least in (((), 0), ((("deed", 0),) * 60, 0), ((FORK, ("lose", 0)), 1), (TWELVE_HALVES, 12),
                               ((FORK, ("join", 1, 0)), 0)):
            self.assertEqual(flattest_plan(history), ())
            self.assertEqual(flattest_peak(history), least)
            self.assertEqual(plan_peak(history, ()), least)
            self.assertIs(is_join_plan(history, ()), True)

    def test_a_step_ahead_of_which_others_must_meet(self):
        # Shares that are quarters of quarters: two by two they are flat, one by one they are not.
        forks = (FORK, FORK, ("fork", 1), FORK, ("fork", 1), ("fork", 2), ("fork", 3))
        self.assertEqual(flattest_peak(forks), 3)
        self.assertEqual(plan_peak(forks, flattest_plan(forks)), 3)

    def test_sixty_steps_and_eight_copies(self):
        chance = Chance(18)
        steps = list(EIGHT)
        while len(steps) < 60:
            steps.append(("deed", chance.below(8)) if chance.below(2) else ("hear", chance.below(4), 4 + chance.below(4)))
        plan = flattest_plan(tuple(steps))
        self.assertEqual(len(plan), 7)
        self.assertIs(is_join_plan(tuple(steps), plan), True)
        self.assertEqual(plan_peak(tuple(steps), plan), flattest_peak(tuple(steps)))


class FirstMeeting(unittest.TestCase):

    def test_histories(self):
        for history, pair in (((), None), ((FORK,), (0, 1)), (THREE, (1, 2)), ((FORK, ("lose", 0)), None),
                              ((FORK, FORK), (0, 2)), ((FORK, FORK, ("fork", 1)), (0, 2)),
                              ((FORK, ("fork", 1), ("fork", 1)), (1, 3)), (TWELVE_HALVES, None)):
            with self.subTest(history):
                self.assertEqual(first_meeting(history), pair)

    def test_against_cells(self):
        seen = set()
        for history, model in some_histories():
            sums = []
            for one, other in combinations(sorted(model.shares), 2):
                rows = {mark: row for mark, row in model.shares.items() if mark not in (one, other)}
                rows[one] = [a + b for a, b in zip(model.shares[one], model.shares[other])]
                sums.append((sum(tuples_in(share_of(row)) for row in rows.values()), one, other))
            self.assertEqual(first_meeting(history), min(sums)[1:] if sums else None)
            seen.add(first_meeting(history))
        self.assertGreater(len(seen), 12)


class Errors(unittest.TestCase):

    def test_the_history_first(self):
        for value, index in ((None, 0), ([], 0), ((None,), 0), (EACH[8] + (FORK,), 15), ((FORK, ("deed", 2)), 1)):
            for call in (lambda: gathering(value, None), lambda: knows_all(value), lambda: is_hear_plan(value, None),
                         lambda: shortest_plan(value), lambda: fewest_steps(value), lambda: is_join_plan(value, ()),
                         lambda: plan_peak(value, None), lambda: flattest_peak(value), lambda: flattest_plan(value),
                         lambda: first_meeting(value)):
                with self.subTest(value), self.assertRaises(InvalidHistory) as caught:
                    call()
                self.assertEqual(caught.exception.index, index)


if __name__ == "__main__":
    unittest.main()
