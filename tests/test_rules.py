"""[2], [3], [4]: what holds for all functions."""

import copy
import inspect
import os
import subprocess
import sys
import unittest
from itertools import combinations

from heirstamps import (
    bits, chains, compared, counts, dots, errors, futures, histories, lost, meetings, paper_texts, shares, shelves,
    sizes,
)
from tests.calls import BOTH, CALLS, CREW, ERRORS, MORE_WRONG, ROWS, SHELF, STRIKES, TALE, wrong_for
from tests.support import (
    chain_share, deep, deep_pair, full_counts, full_share, strange_values, tuples_in,
)


def answer_of(call, *parts, **named):
    """What a call tells, or its error with the fields that it has."""
    try:
        return ("told", call(*parts, **named))
    except errors.StampError as error:
        return (type(error).__name__, vars(error))


class Interface(unittest.TestCase):

    def test_names_and_parameters(self):
        for module, name, named, _ in CALLS:
            with self.subTest(name):
                call = getattr(module, name)
                self.assertEqual(list(inspect.signature(call).parameters), list(named))
                self.assertEqual(call.__module__, module.__name__)

    def test_by_position_and_by_name(self):
        for module, name, named, _ in CALLS:
            with self.subTest(name):
                call = getattr(module, name)
                told = call(*named.values())
                self.assertEqual(call(**named), told)
                self.assertEqual(call(**dict(reversed(named.items()))), told)
                first, *rest = named
                self.assertEqual(call(named[first], **{key: named[key] for key in rest}), told)


class Errors(unittest.TestCase):

    def test_each_parameter_alone(self):
        for module, name, named, _ in CALLS:
            for parameter in named:
                if parameter == "value":
                    continue
                for value in wrong_for(parameter, name):
                    with self.subTest(name, parameter=parameter, value=value):
                        told = answer_of(getattr(module, name), **{**named, parameter: value})
                        self.assertEqual(told, ERRORS[parameter])

    def test_the_first_of_two(self):
        for module, name, named, _ in CALLS:
            for first, second in combinations(named, 2):
                wrong = wrong_for(second, name) if second != "value" else strange_values()
                for at, value in enumerate(wrong_for(first, name)):
                    for other in wrong[at % 7::7]:
                        with self.subTest(name, value=value, other=other):
                            told = answer_of(getattr(module, name), **{**named, first: value, second: other})
                            self.assertEqual(told, ERRORS[first])

    def test_the_first_of_three(self):
        for module, name, named, _ in CALLS:
            for value in (None, True, [], -1, "x", deep(40)):
                first = list(named)[0]
                told = answer_of(getattr(module, name), **{parameter: value for parameter in named})
                with self.subTest(name, value=value):
                    if first != "value" and (first != "text" or value != "x"):
                        self.assertEqual(told, ERRORS[first])

    def test_ahead_of_the_errors_of_the_point(self):
        for call, parts, error in (
                (shares.united, (1, True), "InvalidShare"), (shares.united, (True, 1), "InvalidShare"),
                (shares.halved, (False,), "InvalidShare"), (counts.raised, (0, None), "InvalidCounts"),
                (counts.raised, (0, (0, 0, 0)), "InvalidCounts"), (counts.raised, (False, 0), "InvalidShare"),
                (counts.joined, (full_counts(6), full_counts(7)), "InvalidCounts"),
                (counts.raised, (chain_share(7), full_counts(7)), "InvalidCounts"),
                (shares.less, (full_share(6), full_share(7)), "InvalidShare"),
                (histories.heard, ((None,), None), "InvalidHistory"),
                (histories.known_at, ((("deed", 0), None), 0), "InvalidHistory"),
                (compared.above, (full_counts(6), full_counts(7)), "InvalidCounts"),
                (compared.spread, ((0, 1, 0), 9), "InvalidCount"), (compared.spread, ((0, 1, 1), 9), "InvalidCounts"),
                (compared.gathered, ((0, 1) * 128 + (0,),), "InvalidWorths"),
                (compared.put_together, (((1, 0), (1, 0), None),), "InvalidStamp"),
                (compared.peak, ((1, 1), (0, 0)), "InvalidRow"), (compared.peak, ((1, 1, 2), (0, 0)), "InvalidShare"),
                (compared.least_peak, ((1, 1, 2),), "InvalidShare"),
                (futures.parting, ((), (("fork", 0), None)), "InvalidHistory"),
                (futures.is_parting, ((None,), (), ((), 0, 1)), "InvalidHistory"),
                (meetings.shortest_plan, ((("fork", 0),) * 8,), "InvalidHistory"),
                (chains.some_entries, ((("deed", 0),) * 61,), "InvalidHistory"),
                (chains.deeds_by, (TALE, ((0,),), None), "InvalidRows"),
                (chains.row_counts, (TALE, ((0,),), None), "InvalidRows"),
                (bits.word_of, (TALE, 2, 0, 5), "InvalidMark"), (bits.seems, (TALE, 0, 1, 65, 5), "InvalidCount"),
                (dots.dot_behind, (0, (0, 0, 0)), "InvalidCounts"), (dots.put, (0, SHELF, None), "InvalidDots"),
                (dots.struck_off, (0, SHELF, (((1,), 1),)), "InvalidDots"),
                (dots.put, (chain_share(7), (full_counts(6), ()), (((), 1),)), "InvalidDots"),
                (dots.merged, ((full_counts(6), ()), (full_counts(7), ())), "InvalidShelf"),
                (dots.deed_by, ((), ((), 0)), "InvalidDot"), (dots.dot_of, ((None,), 5), "InvalidHistory"),
                (shelves.shelf_of, ((("deed", 0),) * 41, ((),) * 41, 7), "InvalidMark"),
                (shelves.struck_by, (TALE, STRIKES, 2, 3), "InvalidMark"),
                (lost.taken, (CREW, 2, 1), "InvalidMember"), (lost.hear_first, (CREW, 0, (1, 1)), "InvalidShare"),
                (sizes.nth_share, (64, -1), "InvalidCount"), (sizes.balanced, (0,), "InvalidCount"),
                (lost.takers, (CREW, 2), "InvalidShare"), (lost.lost_share, (((1, 0),) * 2,), "InvalidCrew")):
            with self.subTest(call.__name__, parts=parts):
                self.assertEqual(answer_of(call, *parts)[0], error)

    def test_truths_are_no_integers(self):
        for module, name, parts in ((shares, "share_at", (True, ())), (shares, "share_at", (1, (True,))),
                                    (counts, "worth_at", (True, ())), (counts, "worth_at", (1, (False,))),
                                    (histories, "heard", ((), False)), (histories, "known_at", (TALE, True)),
                                    (compared, "spread", (1, True)), (compared, "gathered", ((True, False),)),
                                    (compared, "covers", ((True,), 0)), (compared, "peak", ((0, 1), (False, True))),
                                    (compared, "least_form", ((True, 0, 0),)), (compared, "best_row", ((True,),)),
                                    (futures, "least_covers", (BOTH, True)), (meetings, "gathering", (BOTH, False)),
                                    (meetings, "plan_peak", (BOTH, (("join", False, True),))),
                                    (chains, "knows", (TALE, True, 0)), (chains, "are_apart", (TALE, 0, True)),
                                    (chains, "row_counts", (TALE, ((True,), (0, 2)), 0)),
                                    (chains, "row_counts", (TALE, ROWS, True)),
                                    (chains, "deeds_by", (TALE, ROWS, (True, False))),
                                    (chains, "crown_history", (True,)),
                                    (bits, "word_of", (TALE, 0, True, 1)), (bits, "least_size", (TALE, True)),
                                    (bits, "seems", (TALE, True, 0, 2, 1)), (bits, "seems", (TALE, 0, True, 2, 1)),
                                    (dots, "has_dot", (1, ((True,), 1))), (dots, "has_dot", (1, ((0,), True))),
                                    (dots, "least_counts", ((((), True),),)), (dots, "dot_of", (TALE, True)),
                                    (dots, "put", (True, SHELF, ())), (dots, "merged", ((True, ()), SHELF)),
                                    (shelves, "held", (TALE, ((False,), (), ()), 0)),
                                    (lost, "takeable", (CREW, True)), (lost, "lost_share", (((True, 0),),)),
                                    (lost, "takers", (CREW, False)),
                                    (sizes, "stamp_size", ((True, 0),)), (sizes, "balanced", (True,)),
                                    (sizes, "nth_share", (True, 0)), (sizes, "nth_share", (1, False)),
                                    (sizes, "share_total", (False,)),
                                    (paper_texts, "paper_text", (("covered", (), False, (0,)),)),
                                    (paper_texts, "paper_text", (("apart", BOTH, False, True),))):
            with self.subTest(name, parts=parts):
                self.assertNotEqual(answer_of(getattr(module, name), *parts)[0], "told")

    def test_nothing_is_raised_for_a_value(self):
        values = strange_values() + [value for rows in MORE_WRONG.values() for value in rows]
        values += [0, 1, 7, (0, 1), (0, 1, 0), ((0, 1), (0, 1, 0)), TALE, (), list(TALE), 10 ** 89, deep_pair(40, [])]
        values += [named["value"] for _, _, named, _ in CALLS if "value" in named]
        looked = 0
        for module, name, named, _ in CALLS:
            # What paper_text raises of a value stands in its point.
            if "value" not in named or name == "paper_text":
                continue
            looked += 1
            for value in values:
                with self.subTest(name, value=value):
                    told = getattr(module, name)(**{**named, "value": value})
                    self.assertIs(type(told), bool)
        self.assertEqual(looked, 15)

    def test_strange_values_are_nothing(self):
        for value in strange_values():
            with self.subTest(value):
                self.assertIs(shares.is_share(value), False)
                self.assertIs(counts.is_counts(value), False)
                self.assertIs(histories.is_history(value), False)
                self.assertIs(futures.is_parting(BOTH, BOTH[:2], value), False)
                self.assertIs(meetings.is_hear_plan(BOTH, value), False)
                self.assertIs(meetings.is_join_plan(BOTH, value), False)
                self.assertIs(chains.is_row_sharing(TALE, value), False)
                self.assertIs(chains.is_entries(TALE, value), False)
                self.assertIs(chains.is_crown(TALE, value), False)
                self.assertIs(dots.is_dot(value), value == ((0, 0), 1))
                self.assertIs(dots.is_shelf(value), False)
                self.assertIs(lost.is_crew(value), False)
                self.assertIs(paper_texts.is_paper(value), False)


class Arguments(unittest.TestCase):

    def test_they_stay_as_they_were(self):
        for module, name, named, _ in CALLS:
            for parameter in named:
                right = [named[parameter]]
                for value in right + (strange_values() if parameter == "value" else wrong_for(parameter, name)):
                    with self.subTest(name, parameter=parameter, value=value):
                        ahead = copy.deepcopy(value)
                        answer_of(getattr(module, name), **{**named, parameter: value})
                        self.assertEqual(repr(value), repr(ahead))

    def test_one_argument_for_two_parameters(self):
        share, tree = (1, (0, 1)), (1, 0, (0, 2, 0))
        self.assertEqual(shares.less(share, share), 0)
        self.assertEqual(counts.joined(tree, tree), tree)
        self.assertIs(counts.is_within(tree, tree), True)
        self.assertEqual(answer_of(shares.united, share, share), ("Overlap", {"path": (0,)}))
        self.assertEqual(compared.above(tree, tree), 0)
        self.assertEqual(compared.met(tree, tree), tree)
        self.assertIs(futures.are_alike(TALE, TALE), True)
        self.assertIsNone(futures.parting(TALE, TALE))
        self.assertIs(futures.is_parting(TALE, TALE, ((), 0, 1)), False)
        self.assertIs(chains.knows(TALE, 2, 2), False)
        self.assertIs(chains.are_apart(TALE, 2, 2), False)
        self.assertIs(bits.seems(TALE, 1, 1, 2, 1), True)
        self.assertEqual(dots.merged(SHELF, SHELF), SHELF)


class SameAnswers(unittest.TestCase):

    def test_again_and_with_others_between(self):
        first = [answer_of(getattr(module, name), **named) for module, name, named, _ in CALLS]
        for module, name, named, _ in CALLS:
            for parameter in named:
                answer_of(getattr(module, name), **{**named, parameter: None})
        again = [answer_of(getattr(module, name), **copy.deepcopy(named)) for module, name, named, _ in reversed(CALLS)]
        self.assertEqual(first, again[::-1])

    def test_lists_are_new_each_time(self):
        for module, name, named, _ in CALLS:
            call = getattr(module, name)
            told = call(**named)
            if isinstance(told, list):
                with self.subTest(name):
                    keep = list(told)
                    self.assertIsNot(call(**named), told)
                    told.append("more")
                    told[0] = "other"
                    self.assertEqual(call(**named), keep)

    def test_kinds_of_what_is_told(self):
        for module, name, named, kind in CALLS:
            with self.subTest(name):
                self.assertIs(type(getattr(module, name)(**named)), kind)

    def test_free_results_are_not_too_great(self):
        steps = (("fork", 0),) * 3 + tuple(("deed", at % 4) for at in range(57))
        for call, history in ((meetings.shortest_plan, steps), (meetings.flattest_plan, steps), (chains.widest, steps),
                              (chains.longest_row, steps), (chains.fewest_rows, steps),
                              (chains.some_entries, steps[:15]), (chains.greatest_crown, steps[:19])):
            with self.subTest(call.__name__):
                told = call(history)
                self.assertLess(tuples_in(told) + repr(told).count(",") * 2, 3000)

    def test_another_process(self):
        rows = [(module.__name__, name, tuple(named.values())) for module, name, named, _ in CALLS]
        program = "import importlib\n" + "\n".join(
            f"print(repr(importlib.import_module({module!r}).{name}(*{parts!r})))" for module, name, parts in rows)
        here = "".join(repr(getattr(module, name)(**named)) + "\n" for module, name, named, _ in CALLS)
        folder = os.path.dirname(os.path.dirname(os.path.abspath(shares.__file__)))
        for seed in ("0", "1", "77"):
            place = {**os.environ, "PYTHONHASHSEED": seed, "PYTHONPATH": folder, "PYTHONDONTWRITEBYTECODE": "1"}
            told = subprocess.run([sys.executable, "-c", program], env=place, capture_output=True, text=True)
            self.assertEqual(told.stdout, here, told.stderr)


class Limits(unittest.TestCase):

    def test_deep_values_and_values_of_many_parts(self):
        for value in (deep(40), deep_pair(40), deep_pair(40, []), full_counts(9), full_share(10), (0,) * 3000,
                      [[0] * 50] * 59, tuple([("deed", 0)] * 900), 10 ** 90 - 1, -10 ** 89, "(" * 20000):
            for module, name, named, _ in CALLS:
                for parameter in named:
                    told = answer_of(getattr(module, name), **{**named, parameter: value})
                    if not name.startswith("is_") and value != 10 ** 90 - 1:
                        self.assertNotEqual(told[0], "told")


if __name__ == "__main__":
    unittest.main()
