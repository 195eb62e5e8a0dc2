"""The errors of the package, all directly under HeadsError."""


class HeadsError(ValueError):
    """The base class of all errors that the package raises."""


class InvalidNumbers(HeadsError):
    """A value is not a list of numbers."""


class InvalidFamily(HeadsError):
    """A value is not a family."""


class InvalidPlan(HeadsError):
    """A value is not a plan, or not one for as many queues."""


class InvalidIndex(HeadsError):
    """A value is not an index, or not the number of a family."""


class UnknownNumber(HeadsError):
    """A value is not one of the numbers that are asked for."""


class InvalidCount(HeadsError):
    """A value is not a number of queues."""


class InvalidLengths(HeadsError):
    """A value is not a list of lengths."""


class InvalidFacts(HeadsError):
    """A value is not a list of facts about the result."""


class Different(HeadsError):
    """Two arguments do not agree in what they must share."""


class InvalidOpen(HeadsError):
    """A value is not an ascending list of queues of the family."""


class UnknownSource(HeadsError):
    """A value is not a source of the net."""


class UnknownMerger(HeadsError):
    """A value is not a merger of the net."""


class UnknownLane(HeadsError):
    """A value is not a lane of the net."""


class InvalidNumber(HeadsError):
    """A value is not an integer."""


class ClosedSource(HeadsError):
    """A source was closed before."""


class UsedNumber(HeadsError):
    """A number was put on a source before."""


class NothingOnTheWay(HeadsError):
    """Nothing is on its way in a lane."""


class NothingToUndo(HeadsError):
    """No call is left that could be undone."""


class InvalidText(HeadsError):
    """A value is not the text of a family or of a plan."""


class InvalidCommand(HeadsError):
    """A value is not a command."""


class NoNet(HeadsError):
    """A desk has no net yet."""


class Contradiction(HeadsError):
    """Facts contradict each other; `indices` is a contradiction."""

    def __init__(self, indices):
        HeadsError.__init__(self, "the facts contradict each other")
        # The caller may change its list later; the error keeps what it got.
        self.indices = list(indices) if isinstance(indices, list) else indices


class Misplaced(HeadsError):
    """There is no dealing; `pair` is a misplaced pair."""

    def __init__(self, pair):
        HeadsError.__init__(self, "a pair of numbers is misplaced")
        self.pair = pair


class TooMany(HeadsError):
    """A computation would be too long; `many` is the number that says so."""

    def __init__(self, many):
        # The text leaves the number out: Python refuses to write very long ones.
        HeadsError.__init__(self, "there are too many cases")
        self.many = many
