"""The errors of the package: one class for each kind of failure."""


class LaneError(ValueError):
    """The base of all errors of the package."""


class NoLane(LaneError):
    """A value is not a lane."""


class NoCar(LaneError):
    """A value is not a car."""


class NoCalls(LaneError):
    """A value is not calls."""


class NoCase(LaneError):
    """A value is not a case of the calls."""


class NoDays(LaneError):
    """A value is not a number of days that the function takes."""


class NotEnd(LaneError):
    """A lane is not an end lane of the calls."""


class NoMoment(LaneError):
    """A value is not a moment."""


class NoIndex(LaneError):
    """A value is not an index that the function takes."""


class NoMap(LaneError):
    """A value is not a case map that the function takes."""


class NoSize(LaneError):
    """A value is not a size that the function takes."""


class NoProgram(LaneError):
    """A value is not a program."""


class Nothing(LaneError):
    """There is no operation that could be undone."""


class NoOperation(LaneError):
    """A value is not an operation as a log holds it."""


class NoText(LaneError):
    """A value is not the text that the function reads."""


class NoRow(LaneError):
    """A value is not a row that the console can execute."""
