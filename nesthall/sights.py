"""Sights: the ways by which the rooms and the doors of a chart are met first."""

from nesthall.runs import after, begun
from nesthall.tables import Finds


def note(met, record, path):
    """Puts into met, by this way, each room that is gone into and each door that is passed, but for those there."""
    for part in record:
        if part[0] in ("in", "door"):
            met.setdefault(part, path)


def seen(chart, most):
    """For each room the way on which it is gone into first, for each door that on which it is passed: two lists.

    Runs are walked in the order of their ways, as for the flat table. Of the ways to one stand the first alone
    is gone on from: what is met behind another one is met behind it too, and by a way that comes before.
    """
    finds = Finds(most)
    met = {}
    told = begun(chart)
    finds.row_of(told[0], ())
    note(met, told[1], ())
    row = 0
    while row < len(finds.stands):
        for event in range(len(chart[4])):
            path = finds.paths[row] + (event,)
            told = after(chart, finds.stands[row], event)
            finds.row_of(told[0], path)
            note(met, told[1], path)
        row += 1
    rooms = [met.get(("in", room)) for room in range(len(chart[5]))]
    doors = [met.get(("door", door)) for door in range(len(chart[6]))]
    return (rooms, doors)
