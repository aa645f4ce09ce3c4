"""What copies have heard while steps are done one by one, whatever their stamps."""

MOST_COPIES = 8
MOST_STEPS = 60
STEP_SIZES = {"fork": 2, "deed": 2, "hear": 3, "join": 3, "lose": 2}


def is_step_form(value):
    """Whether a value is a tuple of the name of a step and as many values as it has marks."""
    if type(value) is not tuple or len(value) == 0 or type(value[0]) is not str:
        return False
    return STEP_SIZES.get(value[0], 0) == len(value)


def _either(lot, other_lot):
    """The lot of what is in one of two lots or in both."""
    return tuple(sorted(set(lot + other_lot)))


class Hearing:
    """The copies that are there, by their marks, with what they have heard, and the deeds that have been done.

    Of deeds that are done, doers has the marks of their copies, and known what these had heard then.
    """

    def __init__(self):
        self.heard_by = {0: ()}
        self.next_mark = 1
        self.doers = []
        self.known = []

    def has(self, mark):
        """Whether a value is the mark of a copy that is there."""
        return type(mark) is int and mark in self.heard_by

    def allows(self, step):
        """Whether a value is a step that can be done, whatever the stamps."""
        if not is_step_form(step) or not all([self.has(mark) for mark in step[1:]]):
            return False
        if step[0] == "fork":
            return len(self.heard_by) < MOST_COPIES
        if step[0] == "lose":
            return len(self.heard_by) > 1
        return len(step) == 2 or step[1] != step[2]

    def do(self, step):
        """Do a step that is allowed."""
        if step[0] == "fork":
            self.do_fork(step[1])
        elif step[0] == "deed":
            self.do_deed(step[1])
        elif step[0] == "hear":
            self.do_hear(step[1], step[2])
        elif step[0] == "join":
            self.do_join(step[1], step[2])
        else:
            self.do_lose(step[1])

    def do_fork(self, mark):
        """Let a further copy come, which has heard what this one has."""
        self.heard_by[self.next_mark] = self.heard_by[mark]
        self.next_mark += 1

    def do_deed(self, mark):
        """Let the copy do the next deed."""
        self.heard_by[mark] = self.heard_by[mark] + (len(self.doers),)
        self.doers.append(mark)
        self.known.append(self.heard_by[mark])

    def do_hear(self, mark, other_mark):
        """Let the first copy hear what the other one has heard."""
        self.heard_by[mark] = _either(self.heard_by[mark], self.heard_by[other_mark])

    def do_join(self, mark, other_mark):
        """Let the first copy hear the other one, which goes."""
        self.heard_by[mark] = _either(self.heard_by[mark], self.heard_by[other_mark])
        self.do_lose(other_mark)

    def do_lose(self, mark):
        """Let the copy go."""
        del self.heard_by[mark]


def hearing_behind(hearing, steps):
    """A new hearing, behind these steps as well; None if the value is no tuple of such steps, or of more than 60."""
    if type(steps) is not tuple or len(steps) > MOST_STEPS:
        return None
    later = Hearing()
    later.heard_by = {mark: hearing.heard_by[mark] for mark in hearing.heard_by}
    later.next_mark = hearing.next_mark
    later.doers = list(hearing.doers)
    later.known = list(hearing.known)
    for step in steps:
        if not later.allows(step):
            return None
        later.do(step)
    return later
