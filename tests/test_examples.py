"""The examples of DOC.md that part 1 can answer, and others that are near them."""

import unittest

from heirstamps.counts import counts_told, is_within, joined, raised, worth_at
from heirstamps.errors import InvalidText, Overlap
from heirstamps.histories import deeds, heard, known_at, marks, stamp_of
from heirstamps.shares import halved, less, owned_paths, share_at, share_told, united

TALE = (("fork", 0), ("deed", 0), ("fork", 1), ("deed", 2), ("hear", 1, 0), ("deed", 1), ("join", 0, 2))


class Examples(unittest.TestCase):

    def test_shares(self):
        self.assertEqual(halved((0, (1, 0))), ((0, ((1, 0), 0)), (0, ((0, 1), 0))))
        self.assertEqual(united((1, 0), (0, (0, 1))), (1, (0, 1)))
        self.assertEqual(less(1, ((0, 1), 0)), ((1, 0), 1))
        self.assertEqual(owned_paths(((0, 1), 1)), [(0, 1), (1,)])
        self.assertEqual(share_at(((0, 1), 1), (0,)), (0, 1))

    def test_overlap(self):
        with self.assertRaises(Overlap) as caught:
            united((1, 0), ((0, 1), 1))
        self.assertEqual(caught.exception.path, (0, 1))

    def test_counts(self):
        self.assertEqual(joined((0, 1, 0), (0, 0, 2)), (1, 0, 1))
        self.assertIs(is_within(1, (1, 0, 1)), True)
        self.assertEqual(worth_at((1, 0, (0, 2, 0)), (1,)), (1, 3))
        self.assertEqual(raised((1, 0), 2), (2, 1, 0))
        self.assertEqual(raised((1, 0), (0, 0, 3)), 3)
        self.assertEqual(raised(1, (1, 0, 1)), 2)

    def test_history(self):
        self.assertEqual(marks(TALE), (0, 1))
        self.assertEqual(stamp_of(TALE, 0), ((1, (0, 1)), (0, 1, (0, 0, 1))))
        self.assertEqual(stamp_of(TALE, 1), ((0, (1, 0)), (0, 1, (0, 1, 0))))
        self.assertEqual(heard(TALE, 0), (0, 1))
        self.assertEqual(heard(TALE, 1), (0, 2))
        self.assertEqual(deeds(TALE), [0, 2, 1])
        self.assertEqual(known_at(TALE, 3), (0, 2))

    def test_texts(self):
        for told, text, index in ((share_told, "(0,0", 3), (counts_told, "(2,1,1)", 5),
                                  (counts_told, "(1,2,(3,0,1))", 6)):
            with self.subTest(text), self.assertRaises(InvalidText) as caught:
                told(text)
            self.assertEqual(caught.exception.index, index)


class FartherExamples(unittest.TestCase):
    """Stamps of histories that DOC.md tells in its later parts."""

    def test_crew(self):
        end = (("fork", 0), ("fork", 1), ("deed", 2), ("hear", 1, 2), ("deed", 2), ("hear", 0, 2), ("lose", 2))
        self.assertEqual(marks(end), (0, 1))
        self.assertEqual(stamp_of(end, 0), ((1, 0), (0, 0, (0, 0, 2))))
        self.assertEqual(stamp_of(end, 1), ((0, (1, 0)), (0, 0, (0, 0, 1))))

    def test_live(self):
        steps = (("fork", 0), ("deed", 0), ("fork", 1), ("deed", 2), ("hear", 1, 0))
        self.assertEqual(marks(steps), (0, 1, 2))
        self.assertEqual(deeds(steps), [0, 2])
        self.assertEqual(stamp_of(steps, 1), ((0, (1, 0)), (0, 1, 0)))
        self.assertEqual(heard(steps, 1), (0,))
        self.assertEqual(stamp_of(steps + (("join", 1, 2),), 1), ((0, 1), (0, 1, (0, 0, 1))))

    def test_console(self):
        steps = (("fork", 0), ("deed", 0), ("fork", 1), ("deed", 2))
        self.assertEqual(stamp_of(steps, 2), ((0, (0, 1)), (0, 0, (0, 0, 1))))

    def test_halved_of_the_whole(self):
        self.assertEqual(halved(1), ((1, 0), (0, 1)))


if __name__ == "__main__":
    unittest.main()
