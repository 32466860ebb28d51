"""The errors of the package, all directly under one."""


class BothError(ValueError):
    """Any error of this package."""


class Unfit(BothError):
    """What was handed in does not fit what is asked of it."""


class BadText(BothError):
    """The text is that of nothing."""


class BadWeb(BothError):
    """This is no web."""

    def __init__(self, error):
        BothError.__init__(self, "this is no web")
        self.error = error


class BadStanding(BothError):
    """This is no standing of the web."""

    def __init__(self, error):
        BothError.__init__(self, "this is no standing of the web")
        self.error = error


class Thin(BothError):
    """A cut has fewer than three ties."""

    def __init__(self, lot):
        BothError.__init__(self, "a cut has fewer than three ties")
        self.lot = lot


class Apart(BothError):
    """The sums on a both-even lot are unlike modulo 2."""

    def __init__(self, lot):
        BothError.__init__(self, "the sums on a both-even lot are unlike modulo 2")
        self.lot = lot


class Sloped(BothError):
    """The sums with a slope are unlike."""

    def __init__(self, slope):
        BothError.__init__(self, "the sums with a slope are unlike")
        self.slope = slope


class Held(BothError):
    """A both-even lot has an odd number of common ties."""

    def __init__(self, held):
        BothError.__init__(self, "a both-even lot has an odd number of common ties")
        self.held = held


class TooMany(BothError):
    """There are more than the limit."""

    def __init__(self, limit):
        BothError.__init__(self, "there are more than the limit")
        self.limit = limit


class NoName(BothError):
    """The shelf does not have the name."""

    def __init__(self, given):
        BothError.__init__(self, "the shelf does not have the name")
        self.given = given


class NoTie(BothError):
    """The web does not have the tie."""

    def __init__(self, given):
        BothError.__init__(self, "the web does not have the tie")
        self.given = given


class Taken(BothError):
    """The shelf has the name already."""

    def __init__(self, given):
        BothError.__init__(self, "the shelf has the name already")
        self.given = given


class NoWay(BothError):
    """No way leads there."""

    def __init__(self, reached):
        BothError.__init__(self, "no way leads there")
        self.reached = reached


class BadLog(BothError):
    """A line of the log is wrong."""

    def __init__(self, place):
        BothError.__init__(self, "a line of the log is wrong")
        self.place = place


class BadBatch(BothError):
    """The batch is no tuple of edits."""


class Rejected(BothError):
    """An edit of the batch does not go."""

    def __init__(self, index):
        BothError.__init__(self, "an edit of the batch does not go")
        self.index = index


class TooManyEdits(BothError):
    """As many edits stand as may stand."""


class NothingToUndo(BothError):
    """No edit stands."""


class NothingToRedo(BothError):
    """No edit was taken back."""


class NoVersion(BothError):
    """There is no such version."""

    def __init__(self, given):
        BothError.__init__(self, "there is no such version")
        self.given = given
