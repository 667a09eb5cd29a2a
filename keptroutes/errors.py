"""The errors of the package, one class for each kind of failure."""


class RouteError(ValueError):
    """The base of all errors of the package."""


class ParseError(RouteError):
    """A text is not that of a table or a wish; `line` is the index of the first line that is wrong."""

    def __init__(self, line):
        super().__init__(f"line {line} is wrong")
        self.line = line


class NoSolution(RouteError):
    """A task has no solution; `leaf` is its first obstacle."""

    def __init__(self, leaf):
        super().__init__(f"the leaf '{leaf}' is an obstacle")
        self.leaf = leaf


class InvalidMap(RouteError):
    """A width, a row or a value is not one that the map may have."""


class InvalidPrefix(RouteError):
    """An object is no prefix of the width of the map."""


class UnknownRow(RouteError):
    """The map has no row with this prefix."""


class InvalidAddress(RouteError):
    """An object is no address of the width of the map."""


class InvalidPair(RouteError):
    """Two maps have different widths."""


class InvalidPrices(RouteError):
    """A price or the prefix of a price is not admitted."""


class UnknownLeaf(RouteError):
    """An object is no leaf of the task."""


class UnknownVersion(RouteError):
    """An object is not the index of a version."""


class NothingToUndo(RouteError):
    """There is no step or version that could be taken back."""


class PlanFinished(RouteError):
    """All steps of the plan are done."""


class InvalidName(RouteError):
    """An object is no name."""


class DuplicateName(RouteError):
    """The name or label is in use."""


class UnknownName(RouteError):
    """There is no table with this name."""


class UnknownMark(RouteError):
    """There is no mark with this label."""


class InvalidCommand(RouteError):
    """An object is no command of a batch."""


class InvalidLine(RouteError):
    """An object is no line of the shell."""
