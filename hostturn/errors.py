"""The refusals: each stands right under HostError, none under another one."""


class HostError(ValueError):
    """Any refusal."""


class NoStep(HostError):
    """What was handed in is no step's text; row is what was handed in."""

    def __init__(self, row):
        HostError.__init__(self, "this is no step's text")
        self.row = row


class BadGuest(HostError):
    """What was handed in makes no guest."""


class BadRows(HostError):
    """House rows that aren't right; at is the number of the first such row, or None."""

    def __init__(self, at):
        HostError.__init__(self, f"these house rows aren't right: row {at}")
        self.at = at


class NoCode(HostError):
    """A code that isn't right for its place."""


class TooMany(HostError):
    """A table of terms that is full; many is how many terms it has."""

    def __init__(self, many):
        HostError.__init__(self, f"this table is full: it has {many} terms")
        self.many = many


class NotShown(HostError):
    """House rows that aren't shown for the code at their place."""


class BadShelf(HostError):
    """A bound or a most that no shelf has."""


class NoRow(HostError):
    """A row that can't stand there; at is its number, or how many were answered ahead of it."""

    def __init__(self, at):
        HostError.__init__(self, f"this row can't stand here: {at}")
        self.at = at
