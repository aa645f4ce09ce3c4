"""The facts B1 to B5."""

import unittest
from itertools import permutations, product

from heirstamps.compared import (
    above, bare_path, best_row, covers, gathered, is_loose, least_cover, least_form, least_peak, met, needed, peak,
    put_together, spread,
)
from heirstamps.counts import is_counts, is_within, joined
from heirstamps.errors import StampError
from heirstamps.histories import heard, marks, stamp_of
from heirstamps.shares import is_share, united
from tests.plain import all_lots
from tests.support import (
    Chance, all_counts, cells, counts_of, full_counts, full_share, share_of, some_histories, tuples_in, worths,
)

COUNTS = all_counts(2, 2)


def joined_all(several):
    """All the several joined; 0, if there are none."""
    told = 0
    for one in several:
        told = joined(told, one)
    return told


def all_loose(deepest, numbers):
    """All loose trees of these numbers, nested at most so deep."""
    if deepest == 0:
        return list(numbers)
    parts = all_loose(deepest - 1, numbers)
    return list(numbers) + [(number, left, right) for number in numbers for left, right in product(parts, repeat=2)]


def integers_in(tree):
    """The sum of all integers in a tree."""
    return sum(integers_in(part) for part in tree) if isinstance(tree, tuple) else tree


class B1(unittest.TestCase):

    def test_above_is_0_exactly_within(self):
        for one in COUNTS:
            for other in COUNTS:
                self.assertEqual(above(one, other) == 0, is_within(one, other))
                # united raises Overlap if they have something in common.
                self.assertIs(is_share(united(above(one, other), above(other, one))), True)

    def test_of_great_ones(self):
        one, other = full_counts(6), (0, full_counts(5), 1)
        self.assertIs(is_within(one, other), True)
        self.assertEqual(above(one, other), 0)
        self.assertIs(is_within(other, one), False)
        self.assertEqual(above(other, one), (0, share_of([1 - cell for cell in cells(full_share(5), 5)])))

    def test_any_sequence(self):
        for call in (joined, met):
            for one in COUNTS:
                for other in COUNTS:
                    self.assertEqual(call(one, other), call(other, one))
                self.assertEqual(call(one, one), one)
        chance = Chance(1)
        for _ in range(400):
            one, two, three = [counts_of([chance.below(4) for _ in range(8)]) for _ in range(3)]
            for call in (joined, met):
                told = {repr(call(a, call(b, c))) for a, b, c in permutations((one, two, three))}
                told |= {repr(call(call(a, b), c)) for a, b, c in permutations((one, two, three))}
                self.assertEqual(len(told), 1)
            self.assertEqual(met(one, joined(two, three)), joined(met(one, two), met(one, three)))
            self.assertEqual(joined(one, met(two, three)), met(joined(one, two), joined(one, three)))

    def test_put_in_one_another(self):
        for one in COUNTS:
            for other in COUNTS:
                self.assertEqual(met(one, joined(one, other)), one)
                self.assertEqual(joined(one, met(one, other)), one)


class B2(unittest.TestCase):

    def test_covers_exactly_without_a_bare_path(self):
        chance = Chance(2)
        answers = {True: 0, False: 0}
        for trial in range(600):
            several = tuple(counts_of([chance.below(3) for _ in range(4)]) for _ in range(trial % 5))
            counts = counts_of([chance.below(3) for _ in range(4)])
            answer = covers(several, counts)
            answers[answer] += 1
            self.assertIs(bare_path(several, counts) is None, answer)
            self.assertIs(is_within(counts, joined_all(several)), answer)
            self.assertIs(least_cover(several, counts) is not None, answer)
            self.assertIs(needed(several, counts) is not None, answer)
        self.assertGreater(min(answers.values()), 100)


class B3(unittest.TestCase):

    def test_histories(self):
        answers = {True: 0, False: 0}
        for history, model in some_histories()[::4]:
            stamps = {mark: stamp_of(history, mark)[1] for mark in marks(history)}
            for mark in stamps:
                for lot in all_lots([other for other in stamps if other != mark])[::3]:
                    together = set().union(*[model.heard[member] for member in lot])
                    answer = covers(tuple(stamps[member] for member in lot), stamps[mark])
                    self.assertIs(answer, model.heard[mark] <= together)
                    answers[answer] += 1
        self.assertGreater(min(answers.values()), 100)

    def test_what_was_heard_of_a_copy_that_has_gone(self):
        history = (("fork", 0), ("fork", 0), ("deed", 2), ("hear", 0, 2), ("deed", 2), ("hear", 1, 2), ("lose", 2))
        self.assertEqual([heard(history, 0), heard(history, 1)], [(0,), (0, 1)])
        self.assertIs(covers((stamp_of(history, 0)[1],), stamp_of(history, 1)[1]), False)
        self.assertIs(covers((stamp_of(history, 1)[1],), stamp_of(history, 0)[1]), True)


class B4(unittest.TestCase):

    def test_one_least_form(self):
        by_worths = {}
        for loose in all_loose(2, (0, 1, 2)):
            by_worths.setdefault(tuple(worths(loose, 2)), []).append(loose)
        forms = {}
        for row, trees in by_worths.items():
            told = {repr(least_form(tree)) for tree in trees}
            self.assertEqual(len(told), 1)
            forms[row] = least_form(trees[0])
            self.assertIs(is_counts(forms[row]), True)
            self.assertIs(is_loose(forms[row]), True)
            fewest = (min(tuples_in(tree) for tree in trees), min(integers_in(tree) for tree in trees))
            self.assertLessEqual(tuples_in(forms[row]), fewest[0])
            self.assertLessEqual(integers_in(forms[row]), fewest[1])
            if max(row) < 3:
                # The least form itself is among these trees.
                self.assertEqual((tuples_in(forms[row]), integers_in(forms[row])), fewest)
        self.assertEqual(len(set(forms.values())), len(forms))

    def test_counts_are_their_own(self):
        for counts in COUNTS + [full_counts(6), 10 ** 89]:
            self.assertEqual(least_form(counts), counts)

    def test_spread_and_gathered(self):
        for counts in COUNTS:
            for number in (2, 3, 8):
                self.assertEqual(gathered(spread(counts, number)), counts)
        self.assertEqual(gathered(spread(full_counts(6), 6)), full_counts(6))
        self.assertEqual(gathered(spread(full_counts(6), 8)), full_counts(6))
        chance = Chance(4)
        for number in range(7):
            for _ in range(20):
                row = tuple(chance.below(4) for _ in range(2 ** number))
                self.assertEqual(spread(gathered(row), number), row)


class B5(unittest.TestCase):

    def test_put_together(self):
        chance = Chance(5)
        for _ in range(60):
            many = 1 + chance.below(4)
            owners = [chance.below(many + 1) for _ in range(8)]
            stamps = [(share_of([int(owner == index) for owner in owners]),
                       counts_of([chance.below(3) for _ in range(8)])) for index in range(many)]
            told = {repr(put_together(row)) for row in permutations(stamps)}
            self.assertEqual(len(told), 1)

    def test_put_together_where_some_sequences_are_too_many(self):
        left, right = (0, full_counts(5), 0), (0, 0, full_counts(5, (0, (0, 1, 0), 0)))
        told = []
        for row in permutations(((0, left), (0, right), (0, 1))):
            try:
                told.append(put_together(row))
            except StampError:
                continue
        self.assertEqual(told, [(0, 1)] * 4)

    def test_the_least_peak_is_at_least_the_size_of_all(self):
        chance = Chance(55)
        higher = 0
        for _ in range(200):
            many = 2 + chance.below(4)
            owners = [chance.below(many) for _ in range(16)]
            shares = tuple(share_of([int(owner == index) for owner in owners]) for index in range(many))
            all_united = 0
            for share in shares:
                all_united = united(all_united, share)
            least = least_peak(shares)
            self.assertGreaterEqual(least, tuples_in(all_united))
            self.assertEqual(peak(shares, best_row(shares)), least)
            higher += least > tuples_in(all_united)
        self.assertGreater(higher, 20)


if __name__ == "__main__":
    unittest.main()
