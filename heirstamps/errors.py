"""All errors of the package."""


class StampError(ValueError):
    """The error under which all others of the package stand."""


class InvalidShare(StampError):
    """What should be a share is none."""


class InvalidCounts(StampError):
    """What should be counts are none."""


class InvalidStamp(StampError):
    """What should be a stamp is none."""


class InvalidPath(StampError):
    """What should be a path is none."""


class InvalidMark(StampError):
    """What should be the mark of a copy that is there is none."""


class InvalidLot(StampError):
    """What should be a lot of marks of copies that are there is none."""


class InvalidCount(StampError):
    """A number is no integer, or not within its bounds."""


class InvalidLoose(StampError):
    """What should be a loose tree is none."""


class InvalidWorths(StampError):
    """What should be a tuple of worths is none."""


class InvalidRow(StampError):
    """What should be a row of all indexes is none."""


class InvalidPlan(StampError):
    """What should be a join plan is none."""


class InvalidDeed(StampError):
    """What should be the number of a deed is none."""


class InvalidRows(StampError):
    """What should be a row sharing is none."""


class InvalidNumbers(StampError):
    """What should be a number for each row is none."""


class InvalidDot(StampError):
    """What should be a dot is none."""


class InvalidDots(StampError):
    """What should be a tuple of dots is none."""


class InvalidShelf(StampError):
    """What should be a shelf is none."""


class InvalidCrew(StampError):
    """What should be a crew is none."""


class InvalidMember(StampError):
    """What should be a member of a crew is none."""


class InvalidPaper(StampError):
    """What should be a paper is none."""


class InvalidCommand(StampError):
    """What should be a command is none."""


class Refused(StampError):
    """What is asked for cannot be done with these arguments."""


class NothingToUndo(StampError):
    """No live step can be taken back."""


class NoSpan(StampError):
    """No span is open."""


class NotReady(StampError):
    """No live history is chosen, or none stands by the name."""


class InvalidHistory(StampError):
    """What should be a history has at index no step that can be done."""

    def __init__(self, index):
        self.index = index


class InvalidText(StampError):
    """No text of its kind begins with more than index of these characters."""

    def __init__(self, index):
        self.index = index


class InvalidStrikes(StampError):
    """What should be strikes has at index no lot that fits."""

    def __init__(self, index):
        self.index = index


class InvalidSteps(StampError):
    """What should be live steps has at index none that can be done."""

    def __init__(self, index):
        self.index = index


class TooMany(StampError):
    """The result would go beyond a bound, which is count."""

    def __init__(self, count):
        self.count = count


class NotShown(StampError):
    """The text has the form of a paper, and does not show what it tells."""

    def __init__(self, count):
        self.count = count


class Overlap(StampError):
    """Two shares both have what path names."""

    def __init__(self, path):
        self.path = path


class NotLost(StampError):
    """Some member has what path names."""

    def __init__(self, path):
        self.path = path


class NotHeard(StampError):
    """The counts of member bar the taking."""

    def __init__(self, member):
        self.member = member


class NotNarrow(StampError):
    """The copies of lot would have stamps of too great a size."""

    def __init__(self, lot):
        self.lot = lot
