"""Tables: a chart told as rows of lamps and moves, and the ways that lead through them."""

from nesthall.errors import TooWide
from nesthall.runs import after, begun, said
from nesthall.stands import lamps


class Finds:
    """The stands that were found, each with the way on which it was found first; at most so many."""

    def __init__(self, most):
        self.most = most
        self.stands = []
        self.paths = []
        self.numbers = {}

    def row_of(self, stand, path):
        """The row of the stand, to which the way leads; TooWide where it would be one too many."""
        if stand in self.numbers:
            return self.numbers[stand]
        row = len(self.stands)
        self.numbers[stand] = row
        self.stands.append(stand)
        self.paths.append(path)
        if row >= self.most:
            raise TooWide(self.paths)
        return row


def move(chart, finds, row, event):
    """The words that the run of the event from the row's stand says, and the row in which it ends."""
    told = after(chart, finds.stands[row], event)
    return (tuple(said(told[1])), finds.row_of(told[0], finds.paths[row] + (event,)))


def flat(chart, most):
    """The words that the chart says when it begins, its flat table, and the stands of the rows.

    Rows are walked in the order in which they are found, and from each the events in theirs, so that
    stands are found in the order of their ways, and each by its own way first.
    """
    finds = Finds(most)
    told = begun(chart)
    finds.row_of(told[0], ())
    rows = []
    while len(rows) < len(finds.stands):
        row = len(rows)
        moves = [move(chart, finds, row, event) for event in range(len(chart[4]))]
        rows.append((lamps(chart[5], finds.stands[row][0]), tuple(moves)))
    return (tuple(said(told[1])), rows, finds.stands)


def ways(rows):
    """For each row of a table the way that leads to it from row 0, or None: a list."""
    paths = {0: ()}
    found = [0]
    place = 0
    while place < len(found):
        row = found[place]
        for event, step in enumerate(rows[row][1]):
            if step[1] not in paths:
                paths[step[1]] = paths[row] + (event,)
                found.append(step[1])
        place += 1
    return [paths.get(row) for row in range(len(rows))]
