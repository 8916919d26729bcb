"""Runs: how a chart begins, and how it comes to rest behind an event."""

from nesthall.goings import goings_in
from nesthall.letters import Letters
from nesthall.passing import sizes_of, stepped, steps_in, turn


def rested(chart, stand, record, letters):
    """The stand at rest and the record of the whole run, of whose first turn these are the stand and the record."""
    now = stand
    whole = list(record)
    turns = 1
    while turns < chart[2] and len(letters.waiting()) > 0:
        told = turn(chart, now, letters.taken(), letters)
        now = told[0]
        whole.extend(told[1])
        turns += 1
    whole.extend([("lost", event) for event in letters.waiting()])
    return (now, whole)


def begun(chart):
    """The stand in which the chart rests when it begins, and the record of its beginning."""
    rooms = chart[5]
    letters = Letters(chart[1])
    entered = goings_in(rooms, None, [])
    starts = tuple([box[2] for box in chart[3]])
    told = stepped(steps_in(rooms, entered), starts, sizes_of(chart), letters)
    stand = (tuple(entered), told[0], ((),) * len(rooms))
    return rested(chart, stand, told[1], letters)


def after(chart, stand, event):
    """The stand in which the run of the event rests that begins in the stand, and the record of the run."""
    letters = Letters(chart[1])
    told = turn(chart, stand, event, letters)
    return rested(chart, told[0], told[1], letters)


def said(record):
    """The words that a record says, a list."""
    return [part[1] for part in record if part[0] == "say"]
