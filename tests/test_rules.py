"""[2], [3], [4]: what holds for all functions of part 1."""

import copy
import inspect
import os
import subprocess
import sys
import unittest

from heirstamps import counts, errors, histories, shares
from tests.support import chain_counts, chain_share, deep, deep_pair, full_counts, full_share, strange_values

TALE = (("fork", 0), ("deed", 0), ("fork", 1), ("deed", 2), ("hear", 1, 0), ("deed", 1), ("join", 0, 2))
# Each function with its parameters, and arguments with which it raises nothing.
CALLS = (
    (shares, "is_share", {"value": (0, 1)}),
    (shares, "share_at", {"share": ((0, 1), 1), "path": (0,)}),
    (shares, "halved", {"share": (0, (1, 0))}),
    (shares, "united", {"share": (1, 0), "other_share": (0, (0, 1))}),
    (shares, "less", {"share": 1, "other_share": ((0, 1), 0)}),
    (shares, "owned_paths", {"share": ((0, 1), 1)}),
    (shares, "share_text", {"share": ((0, 1), 1)}),
    (shares, "share_told", {"text": "((0,1),1)"}),
    (counts, "is_counts", {"value": (0, 1, 0)}),
    (counts, "worth_at", {"counts": (1, 0, (0, 2, 0)), "path": (1,)}),
    (counts, "joined", {"counts": (0, 1, 0), "other_counts": (0, 0, 2)}),
    (counts, "is_within", {"counts": 1, "other_counts": (1, 0, 1)}),
    (counts, "raised", {"share": (1, 0), "counts": (2, 1, 0)}),
    (counts, "counts_text", {"counts": (1, 0, (0, 2, 0))}),
    (counts, "counts_told", {"text": "(1,0,(0,2,0))"}),
    (counts, "is_stamp", {"value": ((0, 1), (0, 0, 1))}),
    (histories, "is_history", {"value": TALE}),
    (histories, "marks", {"history": TALE}),
    (histories, "stamp_of", {"history": TALE, "mark": 1}),
    (histories, "heard", {"history": TALE, "mark": 1}),
    (histories, "deeds", {"history": TALE}),
    (histories, "known_at", {"history": TALE, "count": 3}),
)
ERRORS = {
    "share": ("InvalidShare", {}), "other_share": ("InvalidShare", {}), "counts": ("InvalidCounts", {}),
    "other_counts": ("InvalidCounts", {}), "path": ("InvalidPath", {}), "history": ("InvalidHistory", {"index": 0}),
    "mark": ("InvalidMark", {}), "count": ("InvalidCount", {}), "text": ("InvalidText", {"index": 0}),
}
MORE_WRONG = {
    "share": [(), 2, chain_share(13), full_share(6, (1, (1, 0))), full_share(10)],
    "counts": [(), (1, 0), chain_counts(13), full_counts(6, (0, (0, 1, 0), 0)), full_counts(9)],
    "path": [0, 2, "01", (2,), (0, 1, 2), (0, -1), (0, True), ([],), (0,) * 13, (1,) * 40],
    "history": [5, "f0", (("fork", 1),), (("deed", False),), (("lose", 0),), ((),), ("fork", 0)],
    "mark": [2, 7, -1, (), (0,), 10 ** 89], "count": [0, -1, 4, (), (1,), 10 ** 89],
    "text": [5, (), ("0",), "", ",", ")", "+1", "x" * 20000],
}
MORE_WRONG["other_share"] = MORE_WRONG["share"]
MORE_WRONG["other_counts"] = MORE_WRONG["counts"]


def wrong_for(parameter):
    """Values with which the error of this parameter is raised."""
    strange = strange_values()
    if parameter == "path":
        strange = [value for value in strange if not looks_like_path(value)]
    if parameter == "text":
        strange = [value for value in strange if not isinstance(value, str)]
    return strange + MORE_WRONG[parameter]


def looks_like_path(value):
    """Whether a value is a short tuple of the integers 0 and 1."""
    return isinstance(value, tuple) and len(value) < 13 and all(repr(part) in ("0", "1") for part in value)


def answer_of(call, *parts, **named):
    """What a call tells, or its error with the fields that it has."""
    try:
        return ("told", call(*parts, **named))
    except errors.StampError as error:
        return (type(error).__name__, vars(error))


class Interface(unittest.TestCase):

    def test_names_and_parameters(self):
        for module, name, named in CALLS:
            with self.subTest(name):
                call = getattr(module, name)
                self.assertEqual(list(inspect.signature(call).parameters), list(named))
                self.assertEqual(call.__module__, module.__name__)

    def test_by_position_and_by_name(self):
        for module, name, named in CALLS:
            with self.subTest(name):
                call = getattr(module, name)
                told = call(*named.values())
                self.assertEqual(call(**named), told)
                self.assertEqual(call(**dict(reversed(named.items()))), told)
                first, *rest = named
                self.assertEqual(call(named[first], **{key: named[key] for key in rest}), told)


class Errors(unittest.TestCase):

    def test_each_parameter_alone(self):
        for module, name, named in CALLS:
            for parameter in named:
                if parameter == "value":
                    continue
                for value in wrong_for(parameter):
                    with self.subTest(name, parameter=parameter, value=value):
                        told = answer_of(getattr(module, name), **{**named, parameter: value})
                        self.assertEqual(told, ERRORS[parameter])

    def test_the_first_of_two(self):
        for module, name, named in CALLS:
            if len(named) == 1:
                continue
            first, second = named
            for at, value in enumerate(wrong_for(first)):
                for other in wrong_for(second)[at % 7::7]:
                    with self.subTest(name, value=value, other=other):
                        told = answer_of(getattr(module, name), **{first: value, second: other})
                        self.assertEqual(told, ERRORS[first])

    def test_ahead_of_the_errors_of_the_point(self):
        for call, parts, error in (
                (shares.united, (1, True), "InvalidShare"), (shares.united, (True, 1), "InvalidShare"),
                (shares.halved, (False,), "InvalidShare"), (counts.raised, (0, None), "InvalidCounts"),
                (counts.raised, (0, (0, 0, 0)), "InvalidCounts"), (counts.raised, (False, 0), "InvalidShare"),
                (counts.joined, (full_counts(6), full_counts(7)), "InvalidCounts"),
                (counts.raised, (chain_share(7), full_counts(7)), "InvalidCounts"),
                (shares.less, (full_share(6), full_share(7)), "InvalidShare"),
                (histories.heard, ((None,), None), "InvalidHistory"),
                (histories.known_at, ((("deed", 0), None), 0), "InvalidHistory")):
            with self.subTest(call.__name__, parts=parts):
                self.assertEqual(answer_of(call, *parts)[0], error)

    def test_truths_are_no_integers(self):
        for module, name, parts in ((shares, "share_at", (True, ())), (shares, "share_at", (1, (True,))),
                                    (counts, "worth_at", (True, ())), (counts, "worth_at", (1, (False,))),
                                    (histories, "heard", ((), False)), (histories, "known_at", (TALE, True))):
            with self.subTest(name, parts=parts):
                self.assertNotEqual(answer_of(getattr(module, name), *parts)[0], "told")

    def test_nothing_is_raised_for_a_value(self):
        values = strange_values() + [values for rows in MORE_WRONG.values() for values in rows]
        values += [0, 1, 7, (0, 1), (0, 1, 0), ((0, 1), (0, 1, 0)), TALE, (), list(TALE), 10 ** 89, deep_pair(40, [])]
        for module, name in ((shares, "is_share"), (counts, "is_counts"), (counts, "is_stamp"),
                             (histories, "is_history")):
            for value in values:
                with self.subTest(name, value=value):
                    self.assertIn(getattr(module, name)(value), (True, False))
                    self.assertIs(type(getattr(module, name)(value)), bool)

    def test_strange_values_are_nothing(self):
        for value in strange_values():
            with self.subTest(value):
                self.assertIs(shares.is_share(value), False)
                self.assertIs(counts.is_counts(value), False)
                self.assertIs(histories.is_history(value), False)


class Arguments(unittest.TestCase):

    def test_they_stay_as_they_were(self):
        for module, name, named in CALLS:
            for parameter in named:
                right = [named[parameter]]
                for value in right + (strange_values() if parameter == "value" else wrong_for(parameter)):
                    with self.subTest(name, parameter=parameter, value=value):
                        ahead = copy.deepcopy(value)
                        answer_of(getattr(module, name), **{**named, parameter: value})
                        self.assertEqual(repr(value), repr(ahead))

    def test_one_argument_for_two_parameters(self):
        share, tree = (1, (0, 1)), (1, 0, (0, 2, 0))
        self.assertEqual(shares.less(share, share), 0)
        self.assertEqual(counts.joined(tree, tree), tree)
        self.assertIs(counts.is_within(tree, tree), True)
        self.assertEqual(answer_of(shares.united, share, share), ("Overlap", {"path": (0,)}))


class SameAnswers(unittest.TestCase):

    def test_again_and_with_others_between(self):
        first = [answer_of(getattr(module, name), **named) for module, name, named in CALLS]
        for module, name, named in CALLS:
            for parameter in named:
                answer_of(getattr(module, name), **{**named, parameter: None})
        again = [answer_of(getattr(module, name), **copy.deepcopy(named)) for module, name, named in reversed(CALLS)]
        self.assertEqual(first, again[::-1])

    def test_lists_are_new_each_time(self):
        for module, name, named in CALLS:
            call = getattr(module, name)
            told = call(**named)
            if isinstance(told, list):
                with self.subTest(name):
                    keep = list(told)
                    self.assertIsNot(call(**named), told)
                    told.append("more")
                    told[0] = "other"
                    self.assertEqual(call(**named), keep)

    def test_kinds_of_what_is_told(self):
        kinds = {"is_share": bool, "share_at": tuple, "halved": tuple, "united": tuple, "less": tuple,
                 "owned_paths": list, "share_text": str, "share_told": tuple, "is_counts": bool, "worth_at": tuple,
                 "joined": tuple, "is_within": bool, "raised": tuple, "counts_text": str, "counts_told": tuple,
                 "is_stamp": bool, "is_history": bool, "marks": tuple, "stamp_of": tuple, "heard": tuple,
                 "deeds": list, "known_at": tuple}
        self.assertEqual(sorted(kinds), sorted(name for _, name, _ in CALLS))
        for module, name, named in CALLS:
            with self.subTest(name):
                self.assertIs(type(getattr(module, name)(**named)), kinds[name])

    def test_another_process(self):
        rows = [(module.__name__, name, tuple(named.values())) for module, name, named in CALLS]
        program = "import importlib\n" + "\n".join(
            f"print(repr(importlib.import_module({module!r}).{name}(*{parts!r})))" for module, name, parts in rows)
        here = "".join(repr(getattr(module, name)(**named)) + "\n" for module, name, named in CALLS)
        folder = os.path.dirname(os.path.dirname(os.path.abspath(shares.__file__)))
        for seed in ("0", "1", "77"):
            place = {**os.environ, "PYTHONHASHSEED": seed, "PYTHONPATH": folder, "PYTHONDONTWRITEBYTECODE": "1"}
            told = subprocess.run([sys.executable, "-c", program], env=place, capture_output=True, text=True)
            self.assertEqual(told.stdout, here, told.stderr)


class Limits(unittest.TestCase):

    def test_deep_values_and_values_of_many_parts(self):
        for value in (deep(40), deep_pair(40), deep_pair(40, []), full_counts(9), full_share(10), (0,) * 3000,
                      [[0] * 50] * 59, tuple([("deed", 0)] * 900), 10 ** 90 - 1, -10 ** 89, "(" * 20000):
            for module, name, named in CALLS:
                for parameter in named:
                    told = answer_of(getattr(module, name), **{**named, parameter: value})
                    if not name.startswith("is_") and value != 10 ** 90 - 1:
                        self.assertNotEqual(told[0], "told")


if __name__ == "__main__":
    unittest.main()
