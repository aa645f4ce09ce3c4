"""[3]: that calls end within some seconds, also where their arguments are as great as they may be."""

import time
import unittest

from heirstamps import bits, chains, compared, dots, futures, lost, meetings, paper_texts, shelves, sizes
from heirstamps.console import Console
from heirstamps.counts import is_counts
from heirstamps.errors import TooMany
from heirstamps.histories import is_history
from heirstamps.live import Live, replay
from heirstamps.shares import is_share
from tests.support import Chance, cells, counts_of, share_of, tuples_in, worths

SECONDS = 5


def great_tree(chance, many, deepest, leaf, put):
    """A tree with at most so many tuples, and nearly so many, made of leaves."""
    if many == 0 or deepest == 0:
        return leaf(chance)
    left = chance.below(many)
    return put(great_tree(chance, left, deepest - 1, leaf, put),
               great_tree(chance, many - 1 - left, deepest - 1, leaf, put))


def great_counts(seed):
    """Counts with nearly 63 tuples."""
    chance = Chance(seed)
    counts = 0
    while tuples_in(counts) < 56:
        tree = great_tree(chance, 63, 12, lambda told: told.below(4), lambda left, right: (0, left, right))
        counts = counts_of(worths(tree, 12))
    return counts


def great_share(seed):
    """A share with nearly 60 tuples, nested at most nine deep."""
    chance = Chance(seed)
    share = 0
    while tuples_in(share) < 50:
        tree = great_tree(chance, 60, 9, lambda told: told.below(2), lambda left, right: (left, right))
        share = share_of(cells(tree, 9))
    return share


def in_eighth(share, index):
    """The share that has this one of the eighth part with this index."""
    for at in range(3):
        share = (0, share) if index >> at & 1 else (share, 0)
    return share


def great_history(seed, copies):
    """A history of sixty steps, and so many copies."""
    chance = Chance(seed)
    steps = [("fork", chance.below(mark)) for mark in range(1, copies)]
    while len(steps) < 60:
        one, other = chance.below(copies), chance.below(copies)
        steps.append(("deed", one) if one == other or chance.below(2) else ("hear", one, other))
    return tuple(steps)


class Seconds(unittest.TestCase):

    def look(self, call, *parts, **named):
        """See that a call ends in time, and tell its answer."""
        begun = time.monotonic()
        told = call(*parts, **named)
        self.assertLess(time.monotonic() - begun, SECONDS, call.__name__)
        return told

    def test_sixty_steps_with_eight_copies(self):
        for seed in range(6):
            history, other = great_history(seed, 8), great_history(seed + 20, 8)
            self.assertTrue(is_history(history) and len(history) == 60)
            self.look(futures.cover_table, history)
            self.look(futures.are_alike, history, other)
            told = self.look(futures.parting, history, other)
            self.assertIn(self.look(futures.is_parting, history, other, told), (told is not None,))
            for mark in range(8):
                self.look(futures.least_covers, history, mark)
                self.look(meetings.gathering, history, mark)
            self.look(meetings.knows_all, history)
            plan = self.look(meetings.flattest_plan, history)
            self.assertEqual(self.look(meetings.plan_peak, history, plan), self.look(meetings.flattest_peak, history))
            self.look(meetings.first_meeting, history)
            self.look(meetings.is_hear_plan, history, (("hear", 0, 1),) * 60)

    def test_four_copies_that_have_heard_much(self):
        for seed in range(6):
            history = great_history(seed, 4)
            plan = self.look(meetings.shortest_plan, history)
            self.assertTrue(meetings.is_hear_plan(history, plan))

    def test_sixty_deeds(self):
        for history in ((("deed", 0),) * 60, (("fork", 0),) * 7 + tuple(("deed", at * 3 % 8) for at in range(53)),
                        great_history(1, 8), great_history(2, 5)):
            rows = self.look(chains.fewest_rows, history)
            self.assertEqual(len(rows), self.look(chains.width, history))
            self.assertTrue(self.look(chains.is_row_sharing, history, rows))
            self.assertEqual(len(self.look(chains.levels, history)), len(self.look(chains.longest_row, history)))
            self.look(chains.widest, history)
            self.look(chains.row_counts, history, rows, 0)
            self.look(chains.deeds_by, history, rows, (1,) * len(rows))
            count = sum(step[0] == "deed" for step in history)
            self.look(chains.is_entries, history, tuple((at,) * 49 for at in range(count)))

    def test_twelve_and_sixteen_deeds(self):
        for seed in range(40):
            history = great_history(seed, 3 + seed % 6)
            while sum(step[0] == "deed" for step in history) > 16:
                history = history[:-1]
            self.look(chains.greatest_crown, history)
            while sum(step[0] == "deed" for step in history) > 12:
                history = history[:-1]
            entries = self.look(chains.some_entries, history)
            self.assertTrue(chains.is_entries(history, entries))

    def test_eight_counts_of_nearly_63_tuples(self):
        several = tuple(great_counts(seed) for seed in range(8))
        self.assertTrue(all(is_counts(counts) for counts in several))
        for counts in (several[0], great_counts(9), 3, 1):
            covered = self.look(compared.covers, several, counts)
            self.assertIs(self.look(compared.bare_path, several, counts) is None, covered)
            self.assertIs(self.look(compared.least_cover, several, counts) is not None, covered)
            self.assertIs(self.look(compared.needed, several, counts) is not None, covered)

    def test_eight_shares_of_nearly_63_tuples(self):
        shares = tuple(in_eighth(great_share(seed), seed) for seed in range(8))
        self.assertTrue(all(is_share(share) for share in shares))
        least = self.look(compared.least_peak, shares)
        self.assertGreater(least, 400)
        row = self.look(compared.best_row, shares)
        self.assertEqual(self.look(compared.peak, shares, row), least)

    def test_eight_shares_that_are_near_one_another(self):
        # Each one has a part of each quarter, so that what is united is great on the way and flat at the end.
        owners = [at % 8 for at in range(32)]
        shares = tuple(share_of([int(owner == index) for owner in owners]) for index in range(8))
        self.assertTrue(all(is_share(share) for share in shares))
        row = self.look(compared.best_row, shares)
        self.assertEqual(compared.peak(shares, row), self.look(compared.least_peak, shares))

    def test_words_dots_and_shelves_of_sixty_steps(self):
        for seed in range(4):
            history = great_history(seed, 8)
            count = len([step for step in history if step[0] == "deed"])
            self.look(bits.least_size, history, 4)
            self.look(bits.false_pairs, history, 64, 4)
            for deed in range(count):
                self.assertEqual(self.look(dots.deed_by, history, self.look(dots.dot_of, history, deed)), deed)
            strikes = self.look(shelves.all_struck, history)
            for mark in range(8):
                self.assertTrue(dots.is_shelf(self.look(shelves.shelf_of, history, strikes, mark)))

    def test_forty_dots_twelve_halves_deep(self):
        dotted = tuple(((0,) * 12, worth) for worth in range(1, 41))
        shelf = (self.look(dots.least_counts, dotted), dotted)
        self.assertEqual(tuples_in(shelf[0]), 12)
        self.assertEqual(self.look(dots.merged, shelf, shelf), shelf)
        self.assertEqual(len(self.look(dots.put, (1, 0), shelf, dotted[1:])[1]), 2)
        self.assertEqual(self.look(dots.struck_off, (0, 1), shelf, ())[1], dotted)
        chance = Chance(5)
        paths = sorted({tuple(chance.below(2) for _ in range(12)) for _ in range(40)})
        with self.assertRaises(TooMany):
            self.look(dots.least_counts, tuple((path, 3) for path in paths))

    def test_crews_of_eight_great_members(self):
        for seed in range(3):
            crew = tuple((in_eighth(great_share(seed + at), at), great_counts(seed + 3 * at)) for at in range(8))
            self.assertTrue(self.look(lost.is_crew, crew))
            with self.assertRaises(TooMany):
                self.look(lost.lost_share, crew)
            free = tuple((0, counts) for _, counts in crew)
            for member in range(8):
                for share in (1, (1, 0), great_share(seed + 50)):
                    bars = self.look(lost.barring, free, member, share)
                    self.assertIs(self.look(lost.may_take, free, member, share), bars == ())
                    lot = self.look(lost.hear_first, free, member, share)
                    self.assertIs(lot == (), bars == ())
                    self.look(lost.takers, free, share)
                try:
                    self.look(lost.takeable, crew, member)
                except TooMany as error:
                    self.assertEqual(error.count, 63)

    def test_shares_of_all_sizes(self):
        for size in range(64):
            total = self.look(sizes.share_total, size)
            share = self.look(sizes.nth_share, size, total - 1)
            self.assertEqual(self.look(sizes.share_rank, share), total - 1)
        for seed in range(4):
            share = great_share(seed)
            self.assertEqual(self.look(sizes.nth_share, tuples_in(share), self.look(sizes.share_rank, share)), share)

    def test_sixty_live_steps_with_eight_copies(self):
        for seed in range(3):
            history = great_history(seed, 8)
            live = self.look(replay, (), list(history), bound=126)
            self.assertEqual(live.history, history)
            numbers = [number for row in self.look(live.standings) for number in row]
            self.assertEqual(sorted(numbers), list(range(61)))
            self.look(live.newest)
            self.look(live.covers, (1, 2, 3, 4, 5, 6, 7), 0)
            self.look(live.twin)
            self.look(sizes.sizes, history)
            self.look(sizes.split_paths, history)
            text = self.look(paper_texts.history_text, history)
            self.assertEqual(self.look(paper_texts.history_told, text), history)
            self.assertEqual(self.look(Live, history).history, history)

    def test_runs_of_sixty_four_commands(self):
        history = great_history(4, 8)
        for question in ("standings", "paper 7", "newest", "stamp 3", "covers 0 1 2 3 4 5 6 7", "undo", "twin b",
                         "journal"):
            console = Console()
            steps = [" ".join(map(str, step)) for step in history]
            self.look(console.execute, "run open a; " + "; ".join(steps))
            for name in "bcdefgh":
                console.execute(f"twin {name}")
            self.look(console.execute, "run " + "; ".join([question] * 60))


if __name__ == "__main__":
    unittest.main()
