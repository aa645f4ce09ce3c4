"""The examples of DOC.md that parts 1 to 4 can answer, and others that are near them."""

import unittest

from heirstamps.chains import (
    are_apart, crown_history, deeds_by, fewest_entries, greatest_crown, is_crown, is_entries, is_row_sharing, knows,
    levels, longest_row, row_counts, width,
)
from heirstamps.compared import (
    above, bare_path, best_row, covers, gathered, is_loose, least_cover, least_form, least_peak, met, needed, peak,
    put_together, spread,
)
from heirstamps.counts import counts_told, is_within, joined, raised, worth_at
from heirstamps.errors import InvalidText, Overlap, Refused
from heirstamps.futures import are_alike, cover_table, is_parting, least_covers, parting
from heirstamps.histories import deeds, heard, known_at, marks, stamp_of
from heirstamps.meetings import (
    fewest_steps, first_meeting, flattest_peak, gathering, is_hear_plan, is_join_plan, knows_all, plan_peak,
)
from heirstamps.shares import halved, less, owned_paths, share_at, share_told, united

TALE = (("fork", 0), ("deed", 0), ("fork", 1), ("deed", 2), ("hear", 1, 0), ("deed", 1), ("join", 0, 2))
BOTH = (("fork", 0), ("deed", 0), ("deed", 1))


class Examples(unittest.TestCase):

    def test_shares(self):
        self.assertEqual(halved((0, (1, 0))), ((0, ((1, 0), 0)), (0, ((0, 1), 0))))
        self.assertEqual(united((1, 0), (0, (0, 1))), (1, (0, 1)))
        self.assertEqual(less(1, ((0, 1), 0)), ((1, 0), 1))
        self.assertEqual(owned_paths(((0, 1), 1)), [(0, 1), (1,)])
        self.assertEqual(share_at(((0, 1), 1), (0,)), (0, 1))

    def test_overlap(self):
        with self.assertRaises(Overlap) as caught:
            united((1, 0), ((0, 1), 1))
        self.assertEqual(caught.exception.path, (0, 1))

    def test_counts(self):
        self.assertEqual(joined((0, 1, 0), (0, 0, 2)), (1, 0, 1))
        self.assertIs(is_within(1, (1, 0, 1)), True)
        self.assertEqual(worth_at((1, 0, (0, 2, 0)), (1,)), (1, 3))
        self.assertEqual(raised((1, 0), 2), (2, 1, 0))
        self.assertEqual(raised((1, 0), (0, 0, 3)), 3)
        self.assertEqual(raised(1, (1, 0, 1)), 2)

    def test_history(self):
        self.assertEqual(marks(TALE), (0, 1))
        self.assertEqual(stamp_of(TALE, 0), ((1, (0, 1)), (0, 1, (0, 0, 1))))
        self.assertEqual(stamp_of(TALE, 1), ((0, (1, 0)), (0, 1, (0, 1, 0))))
        self.assertEqual(heard(TALE, 0), (0, 1))
        self.assertEqual(heard(TALE, 1), (0, 2))
        self.assertEqual(deeds(TALE), [0, 2, 1])
        self.assertEqual(known_at(TALE, 3), (0, 2))

    def test_texts(self):
        for told, text, index in ((share_told, "(0,0", 3), (counts_told, "(2,1,1)", 5),
                                  (counts_told, "(1,2,(3,0,1))", 6)):
            with self.subTest(text), self.assertRaises(InvalidText) as caught:
                told(text)
            self.assertEqual(caught.exception.index, index)


class ComparedExamples(unittest.TestCase):
    """Those of part 2."""

    def test_part_by_part(self):
        self.assertEqual(above((1, 0, 1), 1), (0, 1))
        self.assertEqual(met((1, 0, 1), (0, 0, 3)), (0, 0, 2))
        self.assertEqual(met((0, 1, 0), (0, 0, 2)), 0)
        self.assertEqual(above(2, (1, 2, 0)), (0, 1))

    def test_cover(self):
        self.assertIs(covers(((0, 1, 0), (0, 0, 2)), (1, 0, 1)), True)
        self.assertEqual(bare_path(((0, 1, 0),), (1, 0, 1)), (1,))
        self.assertEqual(least_cover(((0, 1, 0), (0, 0, 2), 2), (1, 0, 1)), (2,))
        self.assertEqual(needed(((0, 1, 0), (0, 0, 2), 2), (1, 0, 1)), ())
        self.assertEqual(needed(((0, 1, 0), (0, 0, 2)), (1, 0, 1)), (0, 1))
        self.assertEqual(least_cover((), 0), ())
        self.assertEqual(bare_path((), 1), ())

    def test_loose_trees(self):
        self.assertIs(is_loose((0, 1, 1)), True)
        self.assertEqual(least_form((0, (1, 2, 2), 3)), 3)
        self.assertEqual(least_form((2, 1, (0, 1, 2))), (3, 0, (0, 0, 1)))
        self.assertEqual(spread((1, 0, (0, 2, 0)), 2), (1, 1, 3, 1))
        self.assertEqual(gathered((1, 1, 3, 1)), (1, 0, (0, 2, 0)))
        self.assertRaises(Refused, spread, (1, 0, (0, 2, 0)), 1)

    def test_any_sequence(self):
        four = (((1, 0), 0), ((0, 1), 0), (0, (1, 0)), (0, (0, 1)))
        self.assertEqual(put_together((((1, 0), (0, 1, 0)), ((0, 1), (0, 0, 2)))), (1, (1, 0, 1)))
        self.assertEqual(peak(four, (0, 2, 1, 3)), 3)
        self.assertEqual(least_peak(four), 2)
        self.assertEqual(best_row(four), (0, 1, 2, 3))
        with self.assertRaises(Overlap) as caught:
            put_together(((1, 0), ((1, 0), 3)))
        self.assertEqual(caught.exception.path, (0,))


class MeetingExamples(unittest.TestCase):
    """Those of part 3."""

    def test_futures(self):
        late = (("fork", 0), ("deed", 0), ("deed", 0), ("deed", 1), ("deed", 0))
        self.assertEqual(least_covers(BOTH, 0), [(0,)])
        self.assertEqual(cover_table((("fork", 0),)), [(0, [(0,), (1,)]), (1, [(0,), (1,)])])
        self.assertIs(are_alike(BOTH, late), True)
        self.assertIsNone(parting(BOTH, late))
        self.assertIs(are_alike(BOTH, BOTH[:2]), False)
        two = (("fork", 0), ("fork", 0), ("deed", 0), ("deed", 1), ("hear", 2, 0), ("hear", 2, 1))
        self.assertEqual(least_covers(two, 2), [(2,), (0, 1)])
        self.assertIs(is_parting(BOTH, BOTH[:2], ((), 0, 1)), True)
        self.assertIs(is_parting(BOTH, BOTH[:2], ((("hear", 0, 1),), 0, 1)), False)
        self.assertIs(is_parting(BOTH, late, ((), 0, 1)), False)
        self.assertRaises(Refused, parting, BOTH, ())

    def test_meetings(self):
        three = (("fork", 0), ("fork", 1), ("deed", 0), ("deed", 1), ("deed", 2))
        self.assertEqual(gathering(three, 0), (1, 2))
        self.assertEqual(knows_all(three), ())
        self.assertEqual(fewest_steps(three), 4)
        self.assertEqual(first_meeting(three), (1, 2))
        self.assertEqual(knows_all(BOTH[:2]), (0,))
        self.assertIs(is_join_plan(three, (("join", 0, 1), ("join", 0, 2))), True)
        self.assertEqual(plan_peak(three, (("join", 0, 2), ("join", 0, 1))), 2)
        self.assertEqual(flattest_peak(three), 2)
        self.assertIs(is_join_plan(three, (("join", 1, 2),)), False)
        self.assertIs(is_hear_plan(BOTH, (("hear", 0, 1), ("hear", 1, 0))), True)
        self.assertIs(is_hear_plan(BOTH, (("hear", 0, 1),)), False)
        self.assertEqual(fewest_steps(BOTH), 2)


class ChainExamples(unittest.TestCase):
    """Those of part 4 that chains can answer."""

    def test_rows(self):
        self.assertIs(knows(TALE, 2, 0), True)
        self.assertIs(are_apart(TALE, 1, 2), True)
        self.assertEqual(levels(TALE), [(0, 1), (2,)])
        self.assertEqual(width(TALE), 2)
        self.assertEqual(row_counts(TALE, ((1,), (0, 2)), 0), (1, 1))
        self.assertEqual(deeds_by(TALE, ((1,), (0, 2)), (0, 2)), (0, 2))
        self.assertIs(is_row_sharing(TALE, ((0, 1), (2,))), False)
        self.assertEqual(longest_row(TALE), (0, 2))

    def test_entries_and_crowns(self):
        self.assertEqual(fewest_entries(TALE), 2)
        self.assertIs(is_entries(TALE, ((0, 1), (1, 0), (0, 2))), True)
        self.assertIsNone(greatest_crown(TALE))
        three = crown_history(3)
        self.assertEqual(len(crown_history(6)), 53)
        self.assertEqual(three[5:9], (("fork", 1), ("hear", 3, 2), ("deed", 3), ("lose", 3)))
        self.assertEqual(width(three), 3)
        self.assertEqual(fewest_entries(three), 3)
        self.assertIs(is_crown(three, ((0, 1, 2), (3, 4, 5))), True)


class FartherExamples(unittest.TestCase):
    """Stamps of histories that DOC.md tells in its later parts."""

    def test_crew(self):
        end = (("fork", 0), ("fork", 1), ("deed", 2), ("hear", 1, 2), ("deed", 2), ("hear", 0, 2), ("lose", 2))
        self.assertEqual(marks(end), (0, 1))
        self.assertEqual(stamp_of(end, 0), ((1, 0), (0, 0, (0, 0, 2))))
        self.assertEqual(stamp_of(end, 1), ((0, (1, 0)), (0, 0, (0, 0, 1))))

    def test_live(self):
        steps = (("fork", 0), ("deed", 0), ("fork", 1), ("deed", 2), ("hear", 1, 0))
        self.assertEqual(marks(steps), (0, 1, 2))
        self.assertEqual(deeds(steps), [0, 2])
        self.assertEqual(stamp_of(steps, 1), ((0, (1, 0)), (0, 1, 0)))
        self.assertEqual(heard(steps, 1), (0,))
        self.assertEqual(stamp_of(steps + (("join", 1, 2),), 1), ((0, 1), (0, 1, (0, 0, 1))))

    def test_console(self):
        steps = (("fork", 0), ("deed", 0), ("fork", 1), ("deed", 2))
        self.assertEqual(stamp_of(steps, 2), ((0, (0, 1)), (0, 0, (0, 0, 1))))

    def test_halved_of_the_whole(self):
        self.assertEqual(halved(1), ((1, 0), (0, 1)))


if __name__ == "__main__":
    unittest.main()
