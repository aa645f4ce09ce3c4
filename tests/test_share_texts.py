"""[7]: the texts of shares."""

import unittest
from itertools import product

from heirstamps.errors import InvalidText
from heirstamps.shares import is_share, share_text, share_told
from tests.support import all_shares, chain_share, full_share, share_of, tuples_in


def small_shares(most):
    """All shares with at most so many tuples, by their number."""
    by_size = [[0, 1]]
    for size in range(1, most + 1):
        found = []
        for left_size in range(size):
            for left, right in product(by_size[left_size], by_size[size - 1 - left_size]):
                if (left, right) not in ((0, 0), (1, 1)):
                    found.append((left, right))
        by_size.append(found)
    return [share for row in by_size for share in row]


class Texts(unittest.TestCase):

    def refuse(self, text, index):
        with self.subTest(text), self.assertRaises(InvalidText) as caught:
            share_told(text)
        self.assertIs(type(caught.exception.index), int)
        self.assertEqual(caught.exception.index, index)

    def test_texts(self):
        for share, text in ((0, "0"), (1, "1"), ((0, 1), "(0,1)"), ((1, (0, 1)), "(1,(0,1))"),
                            (((1, 0), (0, (0, 1))), "((1,0),(0,(0,1)))")):
            self.assertEqual(share_text(share), text)
            self.assertEqual(share_told(text), share)

    def test_there_and_back(self):
        for share in all_shares(3) + small_shares(4) + [chain_share(12, (0, 1, 1)), full_share(6)]:
            self.assertEqual(share_told(share_text(share)), share)

    def test_each_short_text_against_all_shares(self):
        texts = [share_text(share) for share in small_shares(5)]
        beginnings = {text[:k] for text in texts for k in range(len(text) + 1)}
        for length in range(6):
            for signs in product("01(), ", repeat=length):
                text = "".join(signs)
                if text in texts:
                    self.assertEqual(share_text(share_told(text)), text)
                else:
                    most = max(k for k in range(length + 1) if text[:k] in beginnings)
                    self.refuse(text, most)

    def test_cut_off(self):
        for text in ("(0,1)", "(1,(0,1))", "(((0,(1,0)),1),(0,1))", share_text(full_share(6))):
            for k in range(len(text)):
                self.refuse(text[:k], k)

    def test_a_sign_too_many(self):
        for text in ("0", "1", "(0,1)", "((1,0),(1,0))"):
            for more in ("0", "1", "(", ")", ",", " ", "x", "(0,1)"):
                self.refuse(text + more, len(text))
        for text, index in (("((0,1)", 6), ("(0,,1)", 3), ("(0,11)", 4), ("(00,1)", 2), ("(,0,1)", 1), (" 0", 0),
                            ("(0,1,0)", 4), ("(0 ,1)", 2), ("(0, 1)", 3), ("((0,1))", 6), ("()", 1), ("(0)", 2)):
            self.refuse(text, index)

    def test_exchanged_or_left_out(self):
        for text, index in (("(0,2)", 3), ("(2,0)", 1), ("[0,1]", 0), ("(0;1)", 2), ("(0.1)", 2), ("(0,1]", 4),
                            ("0,1)", 1), ("(01)", 2), ("(0,)", 3), ("(,1)", 1), ("(-1,0)", 1), ("+1", 0), ("x", 0),
                            ("(1,(0,1)", 8), ("(1,0,1))", 4), ("-", 0), ("2", 0), ("9" * 20000, 0), ("\n0", 0)):
            self.refuse(text, index)

    def test_halves_with_one_number(self):
        for text, index in (("(0,0)", 3), ("(1,1)", 3), ("(0,(0,0))", 6), ("((1,1),0)", 4), ("(0,0", 3),
                            ("((0,1),(1,1))", 10), ("(0,0)0", 3)):
            self.refuse(text, index)

    def test_13_deep(self):
        self.refuse(share_text_of(chain_share(13, (0,))), 12)
        self.refuse(share_text_of(chain_share(40, (0,))), 12)
        self.refuse(share_text_of(chain_share(13, (1,))), 36)
        self.refuse("(" * 12, 12)
        self.refuse("(" * 13, 12)
        self.refuse("(" * 20000, 12)
        self.assertEqual(share_told(share_text_of(chain_share(12))), chain_share(12))
        deep_right = (1, chain_share(12, (1, 0)))
        text = share_text_of(deep_right)
        self.refuse(text, deepest_sign(text))

    def test_13_deep_behind_tuples_that_have_ended(self):
        for left in ((1, 0), (0, (1, (0, 1))), ((1, 0), (0, 1)), chain_share(11)):
            share = (left, chain_share(11))
            self.assertEqual(share_told(share_text_of(share)), share)
            text = share_text_of((left, chain_share(12, (1, 0))))
            self.refuse(text, deepest_sign(text))

    def test_64_tuples(self):
        for share in (full_share(6, (1, (1, 0))), (full_share(6), 0), full_share(7), (0, full_share(6))):
            self.assertFalse(is_share(share))
            text = share_text_of(share)
            places = [at for at, sign in enumerate(text) if sign == "("]
            self.refuse(text, places[63])
        self.assertEqual(tuples_in(share_told(share_text_of(full_share(6)))), 63)

    def test_numbers_stand_where_no_tuple_may(self):
        text = share_text_of(full_share(6, (1, (1, 0))))
        cut = [at for at, sign in enumerate(text) if sign == "("][63]
        self.assertEqual(share_told(text[:cut] + "0" + text[cut + 5:]), full_share(6))

    def test_no_strings(self):
        for value in (None, True, False, 0, 1, 7, (), ("0",), ["0"], [], ("(", "0"), (0, 1), 10 ** 89):
            self.refuse(value, 0)

    def test_what_is_told_is_a_share(self):
        for share in (share_of([0, 1, 1, 0]), chain_share(5, (1, 0))):
            told = share_told(share_text(share))
            self.assertIs(is_share(told), True)
            self.assertIs(type(told), tuple)
        self.assertIs(type(share_told("1")), int)


def share_text_of(share):
    """The text that a share would have, also beyond the bounds."""
    if isinstance(share, tuple):
        return "(" + share_text_of(share[0]) + "," + share_text_of(share[1]) + ")"
    return str(share)


def deepest_sign(text):
    """The place of the first sign that opens a tuple nested 13 deep."""
    open_ones = 0
    for at, sign in enumerate(text):
        open_ones += {"(": 1, ")": -1}.get(sign, 0)
        if open_ones == 13:
            return at
    return len(text)


if __name__ == "__main__":
    unittest.main()
