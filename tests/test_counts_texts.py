"""[9]: the texts of counts."""

import unittest
from itertools import product

from heirstamps.counts import counts_text, counts_told, is_counts
from heirstamps.errors import InvalidText
from tests.support import all_counts, chain_counts, full_counts, tuples_in


def small_counts(most, numbers):
    """All counts of these numbers with at most so many tuples."""
    by_size = [list(numbers)]
    for size in range(1, most + 1):
        found = []
        for left_size in range(size):
            for left, right in product(by_size[left_size], by_size[size - 1 - left_size]):
                low = [part[0] if isinstance(part, tuple) else part for part in (left, right)]
                if min(low) == 0 and (left, right) != (0, 0):
                    found.extend((number, left, right) for number in numbers)
        by_size.append(found)
    return [counts for row in by_size for counts in row]


def text_of(counts):
    """The text that counts would have, also beyond the bounds."""
    if isinstance(counts, tuple):
        return "(" + ",".join(text_of(part) for part in counts) + ")"
    return str(counts)


class Texts(unittest.TestCase):

    def refuse(self, text, index):
        with self.subTest(text), self.assertRaises(InvalidText) as caught:
            counts_told(text)
        self.assertIs(type(caught.exception.index), int)
        self.assertEqual(caught.exception.index, index)

    def test_texts(self):
        for counts, text in ((0, "0"), (7, "7"), (120, "120"), ((0, 1, 0), "(0,1,0)"), ((12, 0, 30), "(12,0,30)"),
                             ((1, 0, (0, 2, 0)), "(1,0,(0,2,0))"), ((0, (2, 0, 1), 0), "(0,(2,0,1),0)")):
            self.assertEqual(counts_text(counts), text)
            self.assertEqual(counts_told(text), counts)

    def test_there_and_back(self):
        some = small_counts(3, (0, 1, 10)) + all_counts(2, 2)
        for counts in some + [chain_counts(12, 345), full_counts(6), 10 ** 89, (10 ** 89, 0, 10 ** 90 - 1)]:
            self.assertEqual(counts_told(counts_text(counts)), counts)

    def test_each_short_text_against_all_counts(self):
        texts = {counts_text(counts) for counts in small_counts(2, (0, 1, 10, 11))}
        beginnings = {text[:k] for text in texts for k in range(len(text) + 1)}
        for length in range(7):
            for signs in product("01(),", repeat=length):
                text = "".join(signs)
                if any(digits in text for digits in ("100", "101", "110", "111")):
                    continue
                if text in texts:
                    self.assertEqual(counts_text(counts_told(text)), text)
                else:
                    self.refuse(text, max(k for k in range(length + 1) if text[:k] in beginnings))

    def test_longer_texts_against_all_counts(self):
        texts = {counts_text(counts) for counts in small_counts(3, (0, 1, 2))}
        beginnings = {text[:k] for text in texts for k in range(len(text) + 1)}
        for text in sorted(counts_text(counts) for counts in small_counts(2, (0, 1))):
            for at in range(len(text)):
                for sign in ("0", "2", "(", ")", ","):
                    changed = text[:at] + sign + text[at + 1:]
                    if any(digits in changed for digits in ("10", "11", "12", "20", "21", "22")):
                        continue
                    if changed in texts:
                        self.assertEqual(counts_text(counts_told(changed)), changed)
                    else:
                        most = max(k for k in range(len(changed) + 1) if changed[:k] in beginnings)
                        self.refuse(changed, most)

    def test_cut_off(self):
        for text in ("(0,1,0)", "(12,(0,3,0),45)", "(0,0,(7,(0,1,0),2))", text_of(full_counts(6))):
            for k in range(len(text)):
                self.refuse(text[:k], k)

    def test_a_sign_too_many(self):
        for text in ("0", "(0,1,0)", "(1,(0,1,0),(4,1,0))"):
            for more in ("0", "1", "(", ")", ",", " ", "x"):
                self.refuse(text + more, len(text))
        for more in ("(", ")", ",", " ", "x", ".", "e", "_1", "-"):
            self.refuse("15" + more, 2)
        for text, index in (("((0,1,0)", 1), ("(0,,1,0)", 3), ("(00,1,0)", 2), ("(0,01,0)", 4), ("(0,1,00)", 6),
                            ("(0,1,0,0)", 6), ("(,0,1,0)", 1), (" 1", 0), ("(0, 1,0)", 3), ("007", 1), ("01", 1),
                            ("()", 1), ("(1)", 2), ("(1,0)", 4), ("(3 ,0,1)", 2), ("+1", 0), ("-1", 0)):
            self.refuse(text, index)

    def test_exchanged_or_left_out(self):
        for text, index in (("[0,1,0)", 0), ("(0;1,0)", 2), ("(0,1;0)", 4), ("(0,1,0]", 6), ("0,1,0)", 1),
                            ("(01,0)", 2), ("(0,10)", 5), ("(0,1,)", 5), ("(0,,0)", 3), ("(,1,0)", 1), ("x", 0),
                            ("(-1,0,1)", 1), ("(0,-1,0)", 3), ("(0,1,-0)", 5), ("(0.0,1,0)", 2), ("\n1", 0)):
            self.refuse(text, index)

    def test_least_worths(self):
        for text, index in (("(2,1,1)", 5), ("(1,2,(3,0,1))", 6), ("(0,0,0)", 5), ("(0,0,0", 5), ("(0,1,2)", 5),
                            ("(0,7,7)", 5), ("(0,12,10)", 6), ("(0,(1,0,1),1)", 11), ("(0,(1,0,1),(2,0,1))", 12),
                            ("(0,(1,0,1),(10,0,1))", 12), ("(0,1,(00,0,1))", 7), ("(0,3,(0,1,2))", 10),
                            ("(0,3,(0,0,0))", 10), ("(0,0,00)", 5), ("(0,0,(0,0,0))", 10), ("(0,5,05)", 6)):
            self.refuse(text, index)

    def test_least_worths_that_fit(self):
        for text in ("(0,0,5)", "(0,5,0)", "(0,0,(3,0,1))", "(0,(3,0,1),0)", "(0,(0,0,1),7)", "(0,7,(0,0,1))",
                     "(0,(0,0,1),0)", "(0,(0,0,1),(3,0,1))", "(0,(3,0,1),(0,0,1))", "(0,(0,0,1),(0,0,1))"):
            self.assertEqual(counts_text(counts_told(text)), text)

    def test_numbers_of_90_and_91_digits(self):
        for digits in ("9" * 90, "1" + "0" * 89):
            self.assertEqual(counts_told(digits), int(digits))
            self.assertEqual(counts_text(int(digits)), digits)
            for text in (f"({digits},0,1)", f"(0,{digits},0)", f"(0,0,{digits})", f"(0,0,({digits},0,{digits}))"):
                self.assertEqual(counts_text(counts_told(text)), text)
        for digits in ("9" * 91, "1" + "0" * 90, "5" * 20000):
            self.refuse(digits, 90)
            self.refuse(f"({digits},0,1)", 91)
            self.refuse(f"(0,{digits},0)", 93)
            self.refuse(f"(0,0,{digits})", 95)
            self.refuse(f"(0,0,({digits},0,1))", 96)

    def test_13_deep(self):
        self.assertEqual(counts_told(text_of(chain_counts(12))), chain_counts(12))
        self.refuse(text_of(chain_counts(13)), 12 * 5)
        self.refuse(text_of(chain_counts(40)), 12 * 5)
        left = 1
        for _ in range(13):
            left = (0, left, 0)
        self.refuse(text_of(left), 12 * 3)
        self.assertEqual(counts_told(text_of(left[1])), left[1])
        self.refuse(text_of((0, 1, chain_counts(12))), 5 + 11 * 5)
        self.refuse("(0," * 5000, 36)

    def test_13_deep_behind_tuples_that_have_ended(self):
        for left in ((0, 1, 0), (0, (0, 1, 0), (0, 1, 0)), chain_counts(11)):
            counts = (0, left, chain_counts(11))
            self.assertEqual(counts_told(text_of(counts)), counts)
            self.refuse(text_of((0, left, chain_counts(12))), 4 + len(text_of(left)) + 11 * 5)

    def test_64_tuples(self):
        for counts in (full_counts(6, (0, (0, 1, 0), 0)), (0, full_counts(6), 0), full_counts(7),
                       (0, 5, full_counts(6))):
            self.assertFalse(is_counts(counts))
            text = text_of(counts)
            self.refuse(text, [at for at, sign in enumerate(text) if sign == "("][63])
        self.assertEqual(tuples_in(counts_told(text_of(full_counts(6)))), 63)

    def test_no_strings(self):
        for value in (None, True, False, 0, 1, 7, (), ("0",), ["0"], [], ("(", "0"), (0, 1, 0), 10 ** 89):
            self.refuse(value, 0)

    def test_what_is_told_is_counts(self):
        for text in ("4", "(1,0,(0,2,0))"):
            self.assertIs(is_counts(counts_told(text)), True)
        self.assertIs(type(counts_told("4")), int)
        self.assertIs(type(counts_told("(0,0,1)")), tuple)


if __name__ == "__main__":
    unittest.main()
