"""The facts A1 to A5."""

import unittest

from heirstamps.counts import counts_text, counts_told, is_counts, is_within, joined, raised, worth_at
from heirstamps.errors import InvalidText, Overlap, TooMany
from heirstamps.histories import heard, marks, stamp_of
from heirstamps.shares import halved, is_share, less, owned_paths, share_at, share_text, share_told, united
from tests.support import (
    Chance, all_counts, all_shares, cells, chain_share, counts_of, full_counts, full_share, share_of, some_histories,
    worths,
)

SHARES = all_shares(3) + [chain_share(12, (0, 1)), full_share(6), (full_share(5), 0), (0, chain_share(11))]
COUNTS = all_counts(2, 2) + [full_counts(6), (3, full_counts(4), 8), 10 ** 89]


def told_or_error(call, *parts):
    """What a call tells, or the error that it raises with its fields."""
    try:
        return call(*parts)
    except (TooMany, Overlap) as error:
        return (type(error).__name__, vars(error))


class A1(unittest.TestCase):

    def test_there_and_back(self):
        for share in SHARES:
            self.assertEqual(share_told(share_text(share)), share)
        for counts in COUNTS:
            self.assertEqual(counts_told(counts_text(counts)), counts)

    def test_texts_that_are_not_refused(self):
        chance = Chance(1)
        for told, text_of, texts in ((share_told, share_text, [share_text(share) for share in all_shares(2)]),
                                     (counts_told, counts_text, [counts_text(counts) for counts in COUNTS])):
            for text in texts:
                for _ in range(20):
                    at = chance.below(len(text))
                    changed = text[:at] + chance.one_of("012(),") + text[at + chance.below(2):]
                    try:
                        found = told(changed)
                    except InvalidText:
                        continue
                    self.assertEqual(text_of(found), changed)

    def test_just_one_share_of_each_lot_of_parts(self):
        rows = [tuple(cells(share, 3)) for share in all_shares(3)]
        self.assertEqual(len(set(rows)), 256)
        # A share that is told by another form is none.
        for share in ((0, 0), (1, 1), ((0, 0), 1), (1, (1, 1)), ((1, 1), (1, 1)), (0, ((0, 0), (0, 0)))):
            self.assertIs(is_share(share), False)

    def test_just_one_counts_of_each_lot_of_worths(self):
        rows = [tuple(worths(counts, 2)) for counts in all_counts(2, 2)]
        self.assertEqual(len(set(rows)), 81)
        for counts in ((0, 1, 1), (0, 1, 2), (1, 0, 0), (0, (0, 1, 1), 0), (0, (1, 0, 1), 1), (0, 2, (1, 0, 1))):
            self.assertIs(is_counts(counts), False)

    def test_all_that_is_told_is_in_this_one_form(self):
        for one in all_shares(2):
            for other in all_shares(2):
                self.assertIs(is_share(less(one, other)), True)
                if not any(a * b for a, b in zip(cells(one, 2), cells(other, 2))):
                    self.assertIs(is_share(united(one, other)), True)
            for path in ((), (0,), (1,), (0, 1), (1, 1, 1)):
                self.assertIs(is_share(share_at(one, path)), True)
        for one in all_counts(2, 1):
            for other in all_counts(2, 2):
                self.assertIs(is_counts(joined(one, other)), True)
            for share in all_shares(2)[1:]:
                self.assertIs(is_counts(raised(share, one)), True)


class A2(unittest.TestCase):

    def test_both_halves_united(self):
        for share in SHARES:
            if share == 0 or share == chain_share(12, (0, 1)) or share == (0, chain_share(11)):
                continue
            kept, given = halved(share)
            self.assertIs(is_share(kept) and is_share(given), True)
            self.assertNotEqual(kept, 0)
            self.assertNotEqual(given, 0)
            self.assertEqual(united(kept, given), share)
            self.assertEqual(united(given, kept), share)

    def test_copies_overlap_nowhere(self):
        for history, _ in some_histories():
            all_of_them = 0
            for mark in marks(history):
                all_of_them = united(all_of_them, stamp_of(history, mark)[0])
            if "lose" not in [step[0] for step in history]:
                self.assertEqual(all_of_them, 1)

    def test_what_is_lost_is_missing(self):
        history = (("fork", 0), ("fork", 1), ("lose", 2))
        self.assertEqual(united(stamp_of(history, 0)[0], stamp_of(history, 1)[0]), (1, (1, 0)))


class A3(unittest.TestCase):

    def test_any_sequence(self):
        chance = Chance(3)
        for _ in range(400):
            rows = [counts_of([chance.below(3) for _ in range(8)]) for _ in range(3)]
            one, two, three = rows
            told = joined(one, joined(two, three))
            for again in (joined(joined(one, two), three), joined(joined(three, one), two),
                          joined(three, joined(two, one)), joined(two, joined(one, three))):
                self.assertEqual(again, told)

    def test_two_ways(self):
        for one in all_counts(2, 2):
            for other in all_counts(2, 2):
                self.assertEqual(joined(one, other), joined(other, one))

    def test_with_itself(self):
        for counts in COUNTS:
            self.assertEqual(joined(counts, counts), counts)

    def test_is_within(self):
        for one in COUNTS:
            for other in COUNTS:
                answer = told_or_error(joined, one, other) == other
                self.assertIs(is_within(one, other), answer)


class A4(unittest.TestCase):

    def look(self, share, counts, k):
        told = worths(raised(share, counts), k)
        ahead = worths(counts, k)
        owned = cells(share, k)
        self.assertTrue(any(told[at] > ahead[at] for at in range(2 ** k) if owned[at]))
        for at in range(2 ** k):
            self.assertGreaterEqual(told[at], ahead[at])
            if not owned[at]:
                self.assertEqual(told[at], ahead[at])

    def test_two_halves(self):
        for share in all_shares(2)[1:]:
            for counts in all_counts(2, 2):
                self.look(share, counts, 2)

    def test_four_halves(self):
        chance = Chance(8)
        for _ in range(1500):
            share = share_of([chance.below(3) // 2 for _ in range(16)])
            if share != 0:
                self.look(share, counts_of([chance.below(4) // 2 for _ in range(16)]), 4)

    def test_great_ones(self):
        self.look(full_share(6), full_counts(6), 6)
        self.look(chain_share(12, (0, 1, 1)), full_counts(5), 12)

    def test_worths_of_the_paths(self):
        share, counts = ((1, 0), (0, 1)), (2, (0, 0, 3), (0, 1, 0))
        told = raised(share, counts)
        for path in owned_paths(less(1, share)):
            self.assertEqual(worth_at(told, path), worth_at(counts, path))
        self.assertTrue(any(worth_at(told, path) != worth_at(counts, path) for path in owned_paths(share)))


class A5(unittest.TestCase):

    def test_histories(self):
        answers = {True: 0, False: 0}
        for history, _ in some_histories():
            there = marks(history)
            told = {mark: (set(heard(history, mark)), stamp_of(history, mark)[1]) for mark in there}
            for one in there:
                for other in there:
                    contained = told[one][0] <= told[other][0]
                    self.assertIs(is_within(told[one][1], told[other][1]), contained)
                    answers[contained] += one != other
        self.assertGreater(min(answers.values()), 100)

    def test_behind_each_step(self):
        for history, _ in some_histories()[::12]:
            for length in range(len(history)):
                steps = history[:length]
                there = marks(steps)
                told = {mark: (set(heard(steps, mark)), stamp_of(steps, mark)[1]) for mark in there}
                for one in there:
                    for other in there:
                        self.assertIs(is_within(told[one][1], told[other][1]), told[one][0] <= told[other][0])


if __name__ == "__main__":
    unittest.main()
