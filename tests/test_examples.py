"""The examples of DOC.md, and others that are near them."""

import unittest

from heirstamps.bits import false_pairs, least_size, seems, word_of
from heirstamps.chains import (
    are_apart, crown_history, deeds_by, fewest_entries, greatest_crown, is_crown, is_entries, is_row_sharing, knows,
    levels, longest_row, row_counts, width,
)
from heirstamps.compared import (
    above, bare_path, best_row, covers, gathered, is_loose, least_cover, least_form, least_peak, met, needed, peak,
    put_together, spread,
)
from heirstamps.console import Console
from heirstamps.counts import counts_told, is_within, joined, raised, worth_at
from heirstamps.dots import (
    deed_by, deeds_told, dot_behind, dot_of, has_dot, is_shelf, least_counts, merged, put, struck_off,
)
from heirstamps.errors import InvalidSteps, InvalidText, NotHeard, NotLost, NotShown, Overlap, Refused
from heirstamps.futures import are_alike, cover_table, is_parting, least_covers, parting
from heirstamps.histories import deeds, heard, known_at, marks, stamp_of
from heirstamps.live import Live, NarrowLive, replay
from heirstamps.lost import barring, crew_of, hear_first, lost_share, may_take, takeable, taken, takers
from heirstamps.meetings import (
    fewest_steps, first_meeting, flattest_peak, gathering, is_hear_plan, is_join_plan, knows_all, plan_peak,
)
from heirstamps.paper_texts import history_text, history_told, paper_text, paper_told
from heirstamps.shares import halved, less, owned_paths, share_at, share_told, united
from heirstamps.shelves import all_struck, held, shelf_of, struck_by
from heirstamps.sizes import (
    balanced, counts_size, least_total, nth_share, share_rank, share_size, share_total, sizes, split_paths, stamp_size,
)

TALE = (("fork", 0), ("deed", 0), ("fork", 1), ("deed", 2), ("hear", 1, 0), ("deed", 1), ("join", 0, 2))
BOTH = (("fork", 0), ("deed", 0), ("deed", 1))
END = (("fork", 0), ("fork", 1), ("deed", 2), ("hear", 1, 2), ("deed", 2), ("hear", 0, 2), ("lose", 2))


class Examples(unittest.TestCase):

    def test_shares(self):
        self.assertEqual(halved((0, (1, 0))), ((0, ((1, 0), 0)), (0, ((0, 1), 0))))
        self.assertEqual(united((1, 0), (0, (0, 1))), (1, (0, 1)))
        self.assertEqual(less(1, ((0, 1), 0)), ((1, 0), 1))
        self.assertEqual(owned_paths(((0, 1), 1)), [(0, 1), (1,)])
        self.assertEqual(share_at(((0, 1), 1), (0,)), (0, 1))

    def test_overlap(self):
        with self.assertRaises(Overlap) as caught:
            united((1, 0), ((0, 1), 1))
        self.assertEqual(caught.exception.path, (0, 1))

    def test_counts(self):
        self.assertEqual(joined((0, 1, 0), (0, 0, 2)), (1, 0, 1))
        self.assertIs(is_within(1, (1, 0, 1)), True)
        self.assertEqual(worth_at((1, 0, (0, 2, 0)), (1,)), (1, 3))
        self.assertEqual(raised((1, 0), 2), (2, 1, 0))
        self.assertEqual(raised((1, 0), (0, 0, 3)), 3)
        self.assertEqual(raised(1, (1, 0, 1)), 2)

    def test_history(self):
        self.assertEqual(marks(TALE), (0, 1))
        self.assertEqual(stamp_of(TALE, 0), ((1, (0, 1)), (0, 1, (0, 0, 1))))
        self.assertEqual(stamp_of(TALE, 1), ((0, (1, 0)), (0, 1, (0, 1, 0))))
        self.assertEqual(heard(TALE, 0), (0, 1))
        self.assertEqual(heard(TALE, 1), (0, 2))
        self.assertEqual(deeds(TALE), [0, 2, 1])
        self.assertEqual(known_at(TALE, 3), (0, 2))

    def test_texts(self):
        for told, text, index in ((share_told, "(0,0", 3), (counts_told, "(2,1,1)", 5),
                                  (counts_told, "(1,2,(3,0,1))", 6)):
            with self.subTest(text), self.assertRaises(InvalidText) as caught:
                told(text)
            self.assertEqual(caught.exception.index, index)


class ComparedExamples(unittest.TestCase):
    """Those of part 2."""

    def test_part_by_part(self):
        self.assertEqual(above((1, 0, 1), 1), (0, 1))
        self.assertEqual(met((1, 0, 1), (0, 0, 3)), (0, 0, 2))
        self.assertEqual(met((0, 1, 0), (0, 0, 2)), 0)
        self.assertEqual(above(2, (1, 2, 0)), (0, 1))

    def test_cover(self):
        self.assertIs(covers(((0, 1, 0), (0, 0, 2)), (1, 0, 1)), True)
        self.assertEqual(bare_path(((0, 1, 0),), (1, 0, 1)), (1,))
        self.assertEqual(least_cover(((0, 1, 0), (0, 0, 2), 2), (1, 0, 1)), (2,))
        self.assertEqual(needed(((0, 1, 0), (0, 0, 2), 2), (1, 0, 1)), ())
        self.assertEqual(needed(((0, 1, 0), (0, 0, 2)), (1, 0, 1)), (0, 1))
        self.assertEqual(least_cover((), 0), ())
        self.assertEqual(bare_path((), 1), ())

    def test_loose_trees(self):
        self.assertIs(is_loose((0, 1, 1)), True)
        self.assertEqual(least_form((0, (1, 2, 2), 3)), 3)
        self.assertEqual(least_form((2, 1, (0, 1, 2))), (3, 0, (0, 0, 1)))
        self.assertEqual(spread((1, 0, (0, 2, 0)), 2), (1, 1, 3, 1))
        self.assertEqual(gathered((1, 1, 3, 1)), (1, 0, (0, 2, 0)))
        self.assertRaises(Refused, spread, (1, 0, (0, 2, 0)), 1)

    def test_any_sequence(self):
        four = (((1, 0), 0), ((0, 1), 0), (0, (1, 0)), (0, (0, 1)))
        self.assertEqual(put_together((((1, 0), (0, 1, 0)), ((0, 1), (0, 0, 2)))), (1, (1, 0, 1)))
        self.assertEqual(peak(four, (0, 2, 1, 3)), 3)
        self.assertEqual(least_peak(four), 2)
        self.assertEqual(best_row(four), (0, 1, 2, 3))
        with self.assertRaises(Overlap) as caught:
            put_together(((1, 0), ((1, 0), 3)))
        self.assertEqual(caught.exception.path, (0,))


class MeetingExamples(unittest.TestCase):
    """Those of part 3."""

    def test_futures(self):
        late = (("fork", 0), ("deed", 0), ("deed", 0), ("deed", 1), ("deed", 0))
        self.assertEqual(least_covers(BOTH, 0), [(0,)])
        self.assertEqual(cover_table((("fork", 0),)), [(0, [(0,), (1,)]), (1, [(0,), (1,)])])
        self.assertIs(are_alike(BOTH, late), True)
        self.assertIsNone(parting(BOTH, late))
        self.assertIs(are_alike(BOTH, BOTH[:2]), False)
        two = (("fork", 0), ("fork", 0), ("deed", 0), ("deed", 1), ("hear", 2, 0), ("hear", 2, 1))
        self.assertEqual(least_covers(two, 2), [(2,), (0, 1)])
        self.assertIs(is_parting(BOTH, BOTH[:2], ((), 0, 1)), True)
        self.assertIs(is_parting(BOTH, BOTH[:2], ((("hear", 0, 1),), 0, 1)), False)
        self.assertIs(is_parting(BOTH, late, ((), 0, 1)), False)
        self.assertRaises(Refused, parting, BOTH, ())

    def test_meetings(self):
        three = (("fork", 0), ("fork", 1), ("deed", 0), ("deed", 1), ("deed", 2))
        self.assertEqual(gathering(three, 0), (1, 2))
        self.assertEqual(knows_all(three), ())
        self.assertEqual(fewest_steps(three), 4)
        self.assertEqual(first_meeting(three), (1, 2))
        self.assertEqual(knows_all(BOTH[:2]), (0,))
        self.assertIs(is_join_plan(three, (("join", 0, 1), ("join", 0, 2))), True)
        self.assertEqual(plan_peak(three, (("join", 0, 2), ("join", 0, 1))), 2)
        self.assertEqual(flattest_peak(three), 2)
        self.assertIs(is_join_plan(three, (("join", 1, 2),)), False)
        self.assertIs(is_hear_plan(BOTH, (("hear", 0, 1), ("hear", 1, 0))), True)
        self.assertIs(is_hear_plan(BOTH, (("hear", 0, 1),)), False)
        self.assertEqual(fewest_steps(BOTH), 2)


class ChainExamples(unittest.TestCase):
    """Those of part 4 that chains can answer."""

    def test_rows(self):
        self.assertIs(knows(TALE, 2, 0), True)
        self.assertIs(are_apart(TALE, 1, 2), True)
        self.assertEqual(levels(TALE), [(0, 1), (2,)])
        self.assertEqual(width(TALE), 2)
        self.assertEqual(row_counts(TALE, ((1,), (0, 2)), 0), (1, 1))
        self.assertEqual(deeds_by(TALE, ((1,), (0, 2)), (0, 2)), (0, 2))
        self.assertIs(is_row_sharing(TALE, ((0, 1), (2,))), False)
        self.assertEqual(longest_row(TALE), (0, 2))

    def test_entries_and_crowns(self):
        self.assertEqual(fewest_entries(TALE), 2)
        self.assertIs(is_entries(TALE, ((0, 1), (1, 0), (0, 2))), True)
        self.assertIsNone(greatest_crown(TALE))
        three = crown_history(3)
        self.assertEqual(len(crown_history(6)), 53)
        self.assertEqual(three[5:9], (("fork", 1), ("hear", 3, 2), ("deed", 3), ("lose", 3)))
        self.assertEqual(width(three), 3)
        self.assertEqual(fewest_entries(three), 3)
        self.assertIs(is_crown(three, ((0, 1, 2), (3, 4, 5))), True)


class StoreExamples(unittest.TestCase):
    """That of words of bits, and those of parts 5 and 6 up to lost."""

    def test_bits(self):
        self.assertEqual(word_of(TALE, 0, 2, 1), (0, 1))
        self.assertEqual(word_of(TALE, 1, 2, 1), (1,))
        self.assertEqual(false_pairs(TALE, 2, 1), [(0, 1)])
        self.assertEqual(least_size(TALE, 1), 3)
        self.assertIs(seems(TALE, 1, 0, 2, 1), False)

    def test_dots(self):
        self.assertEqual([dot_of(TALE, deed) for deed in range(3)], [((0,), 1), ((1, 1), 1), ((1, 0), 1)])
        self.assertEqual(deed_by(TALE, ((1, 0), 1)), 2)
        self.assertIsNone(deed_by(TALE, ((0,), 2)))
        self.assertEqual(deeds_told(TALE, (0, 1, 0)), (0,))
        self.assertEqual(deeds_told(TALE, 1), (0, 1, 2))

    def test_shelves(self):
        self.assertEqual(all_struck(TALE), ((), (), (0,)))
        self.assertEqual(held(TALE, all_struck(TALE), 0), (0, 1))
        self.assertEqual(held(TALE, all_struck(TALE), 1), (2,))
        self.assertEqual(held(TALE, ((), (1,), ()), 1), (0, 2))
        self.assertEqual(struck_by(TALE, all_struck(TALE), 1, 0), (2,))
        one, two = shelf_of(TALE, all_struck(TALE), 0), shelf_of(TALE, all_struck(TALE), 1)
        self.assertEqual(one, ((0, 1, (0, 0, 1)), (((0,), 1), ((1, 1), 1))))
        self.assertEqual(merged(one, two), (1, (((1, 0), 1), ((1, 1), 1))))
        self.assertEqual(dot_behind((1, (0, 1)), one[0]), ((0,), 2))
        self.assertEqual(put((1, (0, 1)), one, (((0,), 1),)), ((0, 2, (0, 0, 1)), (((0,), 2), ((1, 1), 1))))
        self.assertEqual(struck_off((1, (0, 1)), one, ()), ((0, 2, (0, 0, 1)), (((0,), 1), ((1, 1), 1))))
        self.assertEqual(least_counts((((0,), 1), ((1, 1), 1))), (0, 1, (0, 0, 1)))
        self.assertIs(has_dot((0, 1, 0), ((0, 1), 1)), True)
        self.assertIs(is_shelf((0, (((0,), 1),))), False)

    def test_lost(self):
        crew = crew_of(END)
        part = (0, (0, 1))
        self.assertEqual(crew, (((1, 0), (0, 0, (0, 0, 2))), ((0, (1, 0)), (0, 0, (0, 0, 1)))))
        self.assertEqual([lost_share(crew), takeable(crew, 0), takeable(crew, 1)], [part, part, 0])
        self.assertEqual(barring(crew, 1, part), (0,))
        self.assertEqual([may_take(crew, 0, part), may_take(crew, 0, 1)], [True, False])
        self.assertEqual([takers(crew, part), hear_first(crew, 1, part)], [(0,), (0,)])
        self.assertEqual(taken(crew, 0, part)[0], ((1, (0, 1)), (0, 0, (0, 0, 2))))
        with self.assertRaises(NotHeard) as caught:
            taken(crew, 1, part)
        self.assertEqual(caught.exception.member, 0)
        with self.assertRaises(NotLost) as caught:
            takers(crew, (0, 1))
        self.assertEqual(caught.exception.path, (1, 0))


class SizeExamples(unittest.TestCase):
    """Those of sizes."""

    def test_sizes(self):
        self.assertEqual(sizes(END), [0, 2, 5, 7, 9, 9, 11, 7])
        self.assertEqual(split_paths(END), [(), (1,)])
        self.assertEqual([share_size((1, (0, 1))), counts_size((0, 0, (0, 0, 2))), stamp_size(crew_of(END)[0])],
                         [2, 2, 3])

    def test_rows(self):
        self.assertEqual([least_total(3), share_total(3)], [5, 36])
        self.assertEqual(balanced(3), [((1, 0), 0), ((0, 1), 0), (0, 1)])
        self.assertEqual([nth_share(1, 0), nth_share(1, 2), share_rank((1, (0, 1)))], [(0, 1), None, 2])


class LiveExamples(unittest.TestCase):
    """Those of part 7."""

    def test_live(self):
        live = Live((("fork", 0),))
        self.assertEqual([live.deed(0), live.fork(1), live.deed(2), live.hear(1, 0)], [0, 2, 1, None])
        self.assertEqual(live.marks, (0, 1, 2))
        self.assertEqual(live.stamp(1), ((0, (1, 0)), (0, 1, 0)))
        self.assertEqual([live.covers((0,), 1), live.covers((1,), 2)], [True, False])
        self.assertEqual([live.newest(), live.heard(1)], [(0, 1, 2), (0,)])
        self.assertEqual(live.would(("join", 1, 2)), ((0, 1), ((0, 1), (0, 1, (0, 0, 1)))))
        self.assertEqual(live.standings(), [(0,), (1,), (2,), (3,), (4,)])
        self.assertEqual(live.undo(), ("hear", 1, 0))
        self.assertIs(live.covers((1,), 0), False)

    def test_narrow_and_replay(self):
        self.assertEqual(NarrowLive((), 1).fork(0), 1)
        with self.assertRaises(InvalidSteps) as caught:
            replay((), [("fork", 0), ("deed", 0), ("fork", 1)], bound=1)
        self.assertEqual(caught.exception.index, 1)

    def test_paper_texts(self):
        self.assertEqual(history_text((("fork", 0), ("hear", 1, 0))), "f0,h1.0")
        self.assertEqual(history_told("f0,d1,j0.1"), (("fork", 0), ("deed", 1), ("join", 0, 1)))
        self.assertEqual(paper_text(("covered", (("fork", 0), ("deed", 0), ("hear", 1, 0)), 0, (1,))),
                         "c;f0,d0,h1.0;0;1")
        self.assertEqual(paper_told("a;f0,d0,d1;0;1"), ("apart", BOTH, 0, 1))
        self.assertEqual(paper_told("u;f0,d0;f0;1;0"), ("unlike", BOTH[:2], (("fork", 0),), (1,), 0))
        for text, count in (("c;f0,d0;0;1", 3), ("c;f0,d2;0;1", 0)):
            with self.assertRaises(NotShown) as caught:
                paper_told(text)
            self.assertEqual(caught.exception.count, count)
        with self.assertRaises(InvalidText) as caught:
            history_told("f0,d61")
        self.assertEqual(caught.exception.index, 5)

    def test_console(self):
        console = Console()
        told = console.execute("run open a; fork 0; deed 0; fork 1; deed 2; "
                               "show; stamp 2; covers 1 0; newest; standings")
        self.assertEqual(told, "ok; 1; 0; 2; 1; f0,d0,f1,d2; (0,(0,1)) (0,0,(0,0,1)); yes; 0 2; 0 1 2 3 4")
        commands = ("paper 1", "undo", "join 0 2", "heard 1", "journal")
        self.assertEqual([console.execute(command) for command in commands],
                         ["c;f0,d0,f1,d2;1;0", "deed 2", "ok", "none", "open a; fork 0; deed 0; fork 1; join 0 2"])


class FartherExamples(unittest.TestCase):
    """Stamps of histories that DOC.md tells in its later parts."""

    def test_crew(self):
        self.assertEqual(marks(END), (0, 1))
        self.assertEqual(stamp_of(END, 0), ((1, 0), (0, 0, (0, 0, 2))))
        self.assertEqual(stamp_of(END, 1), ((0, (1, 0)), (0, 0, (0, 0, 1))))

    def test_live(self):
        steps = (("fork", 0), ("deed", 0), ("fork", 1), ("deed", 2), ("hear", 1, 0))
        self.assertEqual(marks(steps), (0, 1, 2))
        self.assertEqual(deeds(steps), [0, 2])
        self.assertEqual(stamp_of(steps, 1), ((0, (1, 0)), (0, 1, 0)))
        self.assertEqual(heard(steps, 1), (0,))
        self.assertEqual(stamp_of(steps + (("join", 1, 2),), 1), ((0, 1), (0, 1, (0, 0, 1))))

    def test_console(self):
        steps = (("fork", 0), ("deed", 0), ("fork", 1), ("deed", 2))
        self.assertEqual(stamp_of(steps, 2), ((0, (0, 1)), (0, 0, (0, 0, 1))))

    def test_halved_of_the_whole(self):
        self.assertEqual(halved(1), ((1, 0), (0, 1)))


if __name__ == "__main__":
    unittest.main()
