"""Each function of the interface with its parameters, and the values with which it must raise the errors of [4]."""

from heirstamps import (
    bits, chains, compared, counts, dots, futures, histories, lost, meetings, paper_texts, shares, shelves, sizes,
)
from tests.support import chain_counts, chain_share, full_counts, full_share, strange_values

FORK = ("fork", 0)
TALE = (FORK, ("deed", 0), ("fork", 1), ("deed", 2), ("hear", 1, 0), ("deed", 1), ("join", 0, 2))
BOTH = (FORK, ("deed", 0), ("deed", 1))
FOUR = (((1, 0), 0), ((0, 1), 0), (0, (1, 0)), (0, (0, 1)))
SEVERAL = ((0, 1, 0), (0, 0, 2), 2)
ROWS = ((1,), (0, 2))
SHELF = ((0, 1, (0, 0, 1)), (((0,), 1), ((1, 1), 1)))
OTHER_SHELF = ((0, 1, (0, 1, 0)), (((1, 0), 1),))
STRIKES = ((), (), (0,))
CREW = (((1, 0), (0, 0, (0, 0, 2))), ((0, (1, 0)), (0, 0, (0, 0, 1))))
PART = (0, (0, 1))

# Each function with its parameters, and arguments with which it raises nothing, and the kind of what it tells then.
CALLS = (
    (shares, "is_share", {"value": (0, 1)}, bool),
    (shares, "share_at", {"share": ((0, 1), 1), "path": (0,)}, tuple),
    (shares, "halved", {"share": (0, (1, 0))}, tuple),
    (shares, "united", {"share": (1, 0), "other_share": (0, (0, 1))}, tuple),
    (shares, "less", {"share": 1, "other_share": ((0, 1), 0)}, tuple),
    (shares, "owned_paths", {"share": ((0, 1), 1)}, list),
    (shares, "share_text", {"share": ((0, 1), 1)}, str),
    (shares, "share_told", {"text": "((0,1),1)"}, tuple),
    (counts, "is_counts", {"value": (0, 1, 0)}, bool),
    (counts, "worth_at", {"counts": (1, 0, (0, 2, 0)), "path": (1,)}, tuple),
    (counts, "joined", {"counts": (0, 1, 0), "other_counts": (0, 0, 2)}, tuple),
    (counts, "is_within", {"counts": 1, "other_counts": (1, 0, 1)}, bool),
    (counts, "raised", {"share": (1, 0), "counts": (2, 1, 0)}, tuple),
    (counts, "counts_text", {"counts": (1, 0, (0, 2, 0))}, str),
    (counts, "counts_told", {"text": "(1,0,(0,2,0))"}, tuple),
    (counts, "is_stamp", {"value": ((0, 1), (0, 0, 1))}, bool),
    (histories, "is_history", {"value": TALE}, bool),
    (histories, "marks", {"history": TALE}, tuple),
    (histories, "stamp_of", {"history": TALE, "mark": 1}, tuple),
    (histories, "heard", {"history": TALE, "mark": 1}, tuple),
    (histories, "deeds", {"history": TALE}, list),
    (histories, "known_at", {"history": TALE, "count": 3}, tuple),
    (compared, "above", {"counts": (1, 0, 1), "other_counts": 1}, tuple),
    (compared, "met", {"counts": (1, 0, 1), "other_counts": (0, 0, 3)}, tuple),
    (compared, "covers", {"several": SEVERAL, "counts": (1, 0, 1)}, bool),
    (compared, "bare_path", {"several": SEVERAL[:1], "counts": (1, 0, 1)}, tuple),
    (compared, "least_cover", {"several": SEVERAL, "counts": (1, 0, 1)}, tuple),
    (compared, "needed", {"several": SEVERAL[:2], "counts": (1, 0, 1)}, tuple),
    (compared, "is_loose", {"value": (0, 1, 1)}, bool),
    (compared, "least_form", {"loose": (2, 1, (0, 1, 2))}, tuple),
    (compared, "spread", {"counts": (1, 0, (0, 2, 0)), "number": 2}, tuple),
    (compared, "gathered", {"worths": (1, 1, 3, 1)}, tuple),
    (compared, "put_together", {"stamps": (((1, 0), (0, 1, 0)), ((0, 1), (0, 0, 2)))}, tuple),
    (compared, "peak", {"shares": FOUR, "row": (0, 2, 1, 3)}, int),
    (compared, "least_peak", {"shares": FOUR}, int),
    (compared, "best_row", {"shares": FOUR}, tuple),
    (futures, "least_covers", {"history": BOTH, "mark": 0}, list),
    (futures, "cover_table", {"history": BOTH}, list),
    (futures, "are_alike", {"history": BOTH, "other_history": BOTH + BOTH[1:]}, bool),
    (futures, "parting", {"history": BOTH, "other_history": BOTH[:2]}, tuple),
    (futures, "is_parting", {"history": BOTH, "other_history": BOTH[:2], "value": ((), 0, 1)}, bool),
    (meetings, "gathering", {"history": BOTH, "mark": 0}, tuple),
    (meetings, "knows_all", {"history": BOTH[:2]}, tuple),
    (meetings, "is_hear_plan", {"history": BOTH, "value": (("hear", 0, 1), ("hear", 1, 0))}, bool),
    (meetings, "shortest_plan", {"history": BOTH}, tuple),
    (meetings, "fewest_steps", {"history": BOTH}, int),
    (meetings, "is_join_plan", {"history": BOTH, "value": (("join", 1, 0),)}, bool),
    (meetings, "plan_peak", {"history": BOTH, "plan": (("join", 1, 0),)}, int),
    (meetings, "flattest_peak", {"history": BOTH}, int),
    (meetings, "flattest_plan", {"history": BOTH}, tuple),
    (meetings, "first_meeting", {"history": BOTH}, tuple),
    (chains, "knows", {"history": TALE, "deed": 2, "other_deed": 0}, bool),
    (chains, "are_apart", {"history": TALE, "deed": 1, "other_deed": 2}, bool),
    (chains, "levels", {"history": TALE}, list),
    (chains, "width", {"history": TALE}, int),
    (chains, "widest", {"history": TALE}, tuple),
    (chains, "longest_row", {"history": TALE}, tuple),
    (chains, "fewest_rows", {"history": TALE}, tuple),
    (chains, "is_row_sharing", {"history": TALE, "value": ROWS}, bool),
    (chains, "row_counts", {"history": TALE, "rows": ROWS, "mark": 0}, tuple),
    (chains, "deeds_by", {"history": TALE, "rows": ROWS, "numbers": (0, 2)}, tuple),
    (chains, "is_entries", {"history": TALE, "value": ((0, 1), (1, 0), (0, 2))}, bool),
    (chains, "fewest_entries", {"history": TALE}, int),
    (chains, "some_entries", {"history": TALE}, tuple),
    (chains, "is_crown", {"history": TALE, "value": ((0, 1), (2, 1))}, bool),
    (chains, "greatest_crown", {"history": (FORK,) + BOTH[1:] * 2}, tuple),
    (chains, "crown_history", {"count": 3}, tuple),
    (bits, "word_of", {"history": TALE, "mark": 0, "size": 2, "bits": 1}, tuple),
    (bits, "seems", {"history": TALE, "mark": 1, "other_mark": 0, "size": 2, "bits": 1}, bool),
    (bits, "false_pairs", {"history": TALE, "size": 2, "bits": 1}, list),
    (bits, "least_size", {"history": TALE, "bits": 1}, int),
    (dots, "is_dot", {"value": ((0,), 1)}, bool),
    (dots, "has_dot", {"counts": (0, 1, 0), "dot": ((0, 1), 1)}, bool),
    (dots, "dot_behind", {"share": (1, (0, 1)), "counts": (0, 1, (0, 0, 1))}, tuple),
    (dots, "least_counts", {"dots": (((0,), 1), ((1, 1), 1))}, tuple),
    (dots, "dot_of", {"history": TALE, "deed": 1}, tuple),
    (dots, "deed_by", {"history": TALE, "dot": ((1, 0), 1)}, int),
    (dots, "deeds_told", {"history": TALE, "counts": (0, 1, 0)}, tuple),
    (dots, "is_shelf", {"value": (0, (((0,), 1),))}, bool),
    (dots, "merged", {"shelf": SHELF, "other_shelf": OTHER_SHELF}, tuple),
    (dots, "put", {"share": (1, (0, 1)), "shelf": SHELF, "dots": (((0,), 1),)}, tuple),
    (dots, "struck_off", {"share": (1, (0, 1)), "shelf": SHELF, "dots": (((0,), 1),)}, tuple),
    (shelves, "held", {"history": TALE, "strikes": STRIKES, "mark": 1}, tuple),
    (shelves, "struck_by", {"history": TALE, "strikes": STRIKES, "mark": 1, "deed": 0}, tuple),
    (shelves, "shelf_of", {"history": TALE, "strikes": STRIKES, "mark": 1}, tuple),
    (shelves, "all_struck", {"history": TALE}, tuple),
    (lost, "is_crew", {"value": CREW}, bool),
    (lost, "crew_of", {"history": TALE}, tuple),
    (lost, "lost_share", {"crew": CREW}, tuple),
    (lost, "may_take", {"crew": CREW, "member": 0, "share": PART}, bool),
    (lost, "barring", {"crew": CREW, "member": 1, "share": PART}, tuple),
    (lost, "takeable", {"crew": CREW, "member": 0}, tuple),
    (lost, "takers", {"crew": CREW, "share": PART}, tuple),
    (lost, "hear_first", {"crew": CREW, "member": 1, "share": PART}, tuple),
    (lost, "taken", {"crew": CREW, "member": 0, "share": PART}, tuple),
    (sizes, "share_size", {"share": (1, (0, 1))}, int),
    (sizes, "counts_size", {"counts": (0, 0, (0, 0, 2))}, int),
    (sizes, "stamp_size", {"stamp": CREW[0]}, int),
    (sizes, "sizes", {"history": TALE}, list),
    (sizes, "split_paths", {"history": TALE}, list),
    (sizes, "least_total", {"count": 3}, int),
    (sizes, "balanced", {"count": 3}, list),
    (sizes, "share_total", {"number": 3}, int),
    (sizes, "nth_share", {"number": 2, "index": 7}, tuple),
    (sizes, "share_rank", {"share": (1, (0, 1))}, int),
    (paper_texts, "history_text", {"history": TALE}, str),
    (paper_texts, "history_told", {"text": "f0,d1,j0.1"}, tuple),
    (paper_texts, "is_paper", {"value": ("apart", BOTH, 0, 1)}, bool),
    (paper_texts, "paper_text", {"value": ("apart", BOTH, 0, 1)}, str),
    (paper_texts, "paper_told", {"text": "a;f0,d0,d1;0;1"}, tuple),
)

ERRORS = {
    "share": ("InvalidShare", {}), "other_share": ("InvalidShare", {}), "counts": ("InvalidCounts", {}),
    "other_counts": ("InvalidCounts", {}), "path": ("InvalidPath", {}), "history": ("InvalidHistory", {"index": 0}),
    "other_history": ("InvalidHistory", {"index": 0}), "mark": ("InvalidMark", {}), "count": ("InvalidCount", {}),
    "text": ("InvalidText", {"index": 0}), "several": ("InvalidCounts", {}), "loose": ("InvalidLoose", {}),
    "number": ("InvalidCount", {}), "worths": ("InvalidWorths", {}), "stamps": ("InvalidStamp", {}),
    "shares": ("InvalidShare", {}), "row": ("InvalidRow", {}), "plan": ("InvalidPlan", {}),
    "deed": ("InvalidDeed", {}), "other_deed": ("InvalidDeed", {}), "rows": ("InvalidRows", {}),
    "numbers": ("InvalidNumbers", {}), "other_mark": ("InvalidMark", {}), "size": ("InvalidCount", {}),
    "bits": ("InvalidCount", {}), "dot": ("InvalidDot", {}), "dots": ("InvalidDots", {}),
    "shelf": ("InvalidShelf", {}), "other_shelf": ("InvalidShelf", {}), "strikes": ("InvalidStrikes", {"index": 0}),
    "crew": ("InvalidCrew", {}), "member": ("InvalidMember", {}), "stamp": ("InvalidStamp", {}),
    "index": ("InvalidCount", {}), "bound": ("InvalidCount", {}), "lot": ("InvalidLot", {}),
}

MORE_WRONG = {
    "share": [(), 2, chain_share(13), full_share(6, (1, (1, 0))), full_share(10)],
    "counts": [(), (1, 0), chain_counts(13), full_counts(6, (0, (0, 1, 0), 0)), full_counts(9)],
    "path": [0, 2, "01", (2,), (0, 1, 2), (0, -1), (0, True), ([],), (0,) * 13, (1,) * 40],
    "history": [5, "f0", (("fork", 1),), (("deed", False),), (("lose", 0),), ((),), ("fork", 0)],
    "mark": [2, 7, -1, (), (0,), 10 ** 89], "count": [0, -1, (), (1,), -10 ** 89],
    "text": [5, (), ("0",), "", ",", ")", "+1", "x" * 20000],
    "several": [0, 3, (0,) * 9, (0, (0, 1, 1)), (0, None), (chain_counts(13),), (full_counts(9),), [0, 1]],
    "loose": [(), (0, 1), [0, 1, 1], (0, 0, 0, 0), chain_counts(13), full_counts(9), (0, 1, (0, 0, -1))],
    "number": [-1, -10 ** 89, (2,), ()], "index": [-1, -10 ** 89, (2,), ()],
    "stamp": [(), 0, (1,), (1, 0, 0), [1, 0], ((1, 1), 0), (0, (0, 0, 0)), (full_share(10), 0), (0, chain_counts(13))],
    "worths": [(), 0, (1, 2, 3), (0,) * 512, (0,) * 3, [0, 1], (0, -1), (0, None), (1, (0,))],
    "stamps": [(), 0, ((1, 0),) * 9, [(1, 0)], (1, 0), ((1, 0, 0),), ((1, (0, 1, 1)),), ((chain_share(13), 0),)],
    "shares": [(), 0, 1, (0,) * 9, [0, 1], (2,), (0, (1, 1)), (chain_share(13),), (full_share(10),)],
    "row": [(), 0, (0, 1, 2), (0, 1, 2, 2), (0, 1, 2, 4), (0, 1, 2, 3, 0), [0, 1, 2, 3], (0, True, 2, 3), "0123"],
    "plan": [(), (("join", 0, 0),), (("join", 0, 2),), [("join", 0, 1)], (("hear", 0, 1),), ("join", 0, 1), "j0.1",
             (("join", 0, 1), ("join", 0, 1)), (("join", 0, True),)],
    "deed": [3, -1, 10 ** 89, (0,), ()],
    "rows": [(), ((0, 1), (2,)), ((1,), (0,)), ((1,), (0, 2), ()), ((1,), (0, 2), (2,)), [(1,), (0, 2)],
             ((1,), [0, 2])],
    "numbers": [(), (0,), (0, 3), (2, 0), (0, 0, 0), (0, -1), [0, 2], (0, True), "02"],
    "size": [0, 65, 10 ** 89, (2,), ()], "bits": [0, 5, 10 ** 89, (2,), ()],
    "dot": [(), 1, ((0,), 0), ((0,) * 13, 1), ((2,), 1), ((0,), True), [(0,), 1], ([0], 1), ((0,), 1, 1), ((0,), -1)],
    "dots": [0, [((0,), 1)], ((0,), 1), (((1, 1), 1), ((0,), 1)), (((0,), 1), ((0,), 1)), (((0,) * 13, 1),),
             tuple(((0,), worth) for worth in range(1, 42)), (((0,), True),), (((0,), 1), ((1, 1), 0)), (1,)],
    "shelf": [(), 0, (0, (((), 1),)), (41, tuple(((), worth) for worth in range(1, 42))), [1, ()], (1, []), (1, (), ()),
              (2, (((), 2), ((), 1))), (True, ()), ((0, 1, 1), ()), (full_counts(9), ()), (chain_counts(13), ())],
    "strikes": [0, (), ((1,), (), ()), ((0, 0), (), ()), ((False,), (), ()), (0, (), ()), [(), (), (0,)], "012",
                ([0], (), ()), ((0, 1), (0, 1)), ((-1,),)],
    "crew": [(), 0, (1, 0), [(1, 0)], ((1, 0), (1, 0)), ((0, 0),) * 9, ((1, 0), (0, None)), ((1, (0, 1, 1)),),
             ((chain_share(13), 0),), ((full_share(10), 0),), (((0, 1), 0), ((0, (1, 0)), 0))],
    "member": [2, -1, 10 ** 89, (0,), ()],
}
for name in ("share", "counts", "history", "deed", "mark", "shelf"):
    MORE_WRONG["other_" + name] = MORE_WRONG[name]


def are_integers(value, least=0):
    """Whether a value is a tuple of integers from least on."""
    return isinstance(value, tuple) and all(type(part) is int and part >= least for part in value)


def is_plain_loose(value):
    """Whether a value that is not deep is a loose tree."""
    if not isinstance(value, tuple):
        return type(value) is int and value >= 0
    return len(value) == 3 and type(value[0]) is int and value[0] >= 0 and all(map(is_plain_loose, value[1:]))


# Of the texts that are wrong for these some are right for their first signs; test_paper_texts looks at them.
TEXTS_TO_THEIR_ENDS = ("history_told", "paper_told")

# Of the strange values these are right for the parameter.
RIGHT = {
    "path": lambda value: are_integers(value) and len(value) < 13 and set(value) <= {0, 1},
    "text": lambda value: isinstance(value, str),
    "several": lambda value: isinstance(value, tuple) and len(value) < 9 and all(map(counts.is_counts, value)),
    "loose": is_plain_loose,
    "worths": lambda value: are_integers(value) and len(value) in (1, 2, 4),
    "stamps": lambda value: isinstance(value, tuple) and len(value) in range(1, 9) and all(map(counts.is_stamp, value)),
    "shares": lambda value: isinstance(value, tuple) and len(value) in range(1, 9) and all(map(shares.is_share, value)),
    "numbers": lambda value: are_integers(value) and len(value) == 2 and value[0] < 2 and value[1] < 3,
    "dot": lambda value: value == ((0, 0), 1),
    "stamp": counts.is_stamp,
    # A good entry leads to another index; test_shelves looks at these.
    "strikes": lambda value: value == ((), ()),
}


def wrong_for(parameter, name=""):
    """Values with which the error of this parameter of the function is raised."""
    right = RIGHT.get(parameter, lambda value: False)
    wrong = [value for value in strange_values() if not right(value)] + MORE_WRONG[parameter]
    if name in TEXTS_TO_THEIR_ENDS:
        wrong = [value for value in wrong if not isinstance(value, str)]
    return wrong
