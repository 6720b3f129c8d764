"""The errors that the package raises."""


class GardenError(ValueError):
    """The base class of all errors of the package."""


class SyntaxFault(GardenError):
    """A text that is no plan, at a line and a column, both counted from 0."""

    def __init__(self, line, column):
        super().__init__(f"syntax fault in line {line}, column {column}")
        self.line = line
        self.column = column


class CheckFault(GardenError):
    """A plan that follows the grammar and breaks another rule."""

    def __init__(self, reason, line, column):
        super().__init__(f"fault '{reason}' in line {line}, column {column}")
        self.reason = reason
        self.line = line
        self.column = column


class InvalidTick(GardenError):
    """A tick, or a number of ticks, that is not allowed."""


class InvalidCount(GardenError):
    """A number that is not allowed."""


class UnknownValve(GardenError):
    """A valve that the plan does not have."""


class TooLong(GardenError):
    """A plan whose situations do not come again early enough."""


class DifferentValves(GardenError):
    """Two plans that do not have the same valves."""


class Contradiction(GardenError):
    """An observation after which no candidate would remain."""


class InvalidCode(GardenError):
    """A list of bytes that is no plan, and the place of its first fault."""

    def __init__(self, place):
        super().__init__(f"invalid code at place {place}")
        self.place = place


class QueueFull(GardenError):
    """A request for a valve for which too many wait already."""


class InvalidName(GardenError):
    """A name that a snapshot cannot have."""


class UnknownName(GardenError):
    """A name that no snapshot has."""


class InvalidOperation(GardenError):
    """A list of operations that cannot be executed, and the place of the first fault."""

    def __init__(self, place):
        super().__init__(f"invalid operation at place {place}")
        self.place = place


class TooManyStarts(GardenError):
    """A plan with more starts than can be shifted."""
