"""What the program refuses with."""


class LaneError(ValueError):
    """What all refusals stand under."""


class BadPlan(LaneError):
    """A plan that isn't one; place is the number of the faulty corner."""

    def __init__(self, place):
        self.place = place


class BadRow(LaneError):
    """A text with a row that isn't so written; row is its number."""

    def __init__(self, row):
        self.row = row


class Taken(LaneError):
    """A name under which another one stands."""


class NoName(LaneError):
    """A name under which none stands."""


class NoGate(LaneError):
    """A gate that isn't there."""


class Past(LaneError):
    """A moment that is over."""
