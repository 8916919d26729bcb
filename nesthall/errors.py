"""The refusals of the program.

A refusal copies the list that it bears and hands its base a text alone, so
that nothing of it hangs on what becomes of the list that was handed in.
"""


class NestError(ValueError):
    """Any refusal."""


class BadChart(NestError):
    """The chart has faults: a list of tuples of a text and a number."""

    def __init__(self, faults):
        NestError.__init__(self, "the chart has faults")
        self.faults = list(faults)


class NoEvent(NestError):
    """The number is not that of an event of the chart."""

    def __init__(self, event):
        NestError.__init__(self, f"the chart has no event {event}")
        self.event = event


class TooWide(NestError):
    """The flat table would have more rows than are let by; ways is a list of ways."""

    def __init__(self, ways):
        NestError.__init__(self, "the flat table has too many rows")
        self.ways = list(ways)


class NoWords(NestError):
    """The text is not what is written of a number, a guard or a deed."""


class Unread(NestError):
    """The text is not what is written of a chart; row counts from 1 on."""

    def __init__(self, row):
        NestError.__init__(self, f"row {row} can't stand where it does")
        self.row = row


class NoRow(NestError):
    """The row is none that a desk answers."""


class NoName(NestError):
    """The row names an event, a box or a room that is not there."""
