"""The refusals: each one a class straight under LaneError."""


class LaneError(ValueError):
    """What all refusals are."""


class NoDeed(LaneError):
    """What was handed in is no deed; place is its number."""

    def __init__(self, place):
        LaneError.__init__(self, f"no deed at place {place}")
        self.place = place


class NoGroup(LaneError):
    """A deed speaks of a group that isn't there, or of two that can't be one; place is the deed's number."""

    def __init__(self, place):
        LaneError.__init__(self, f"no such group for the deed at place {place}")
        self.place = place


class NoText(LaneError):
    """A text isn't written as told; row is the number of the first row that is wrong."""

    def __init__(self, row):
        LaneError.__init__(self, f"not written as told in row {row}")
        self.row = row


class NotEven(LaneError):
    """A net isn't even for the lanes that were named."""


class NoLine(LaneError):
    """What was said to the desk is none of its lines."""
