"""The desk: the chart of a text, run and asked by rows of words."""

from nesthall.charts import names_of
from nesthall.errors import NoName, NoRow, NoWords, TooWide
from nesthall.figures import read_number, written
from nesthall.nest import Nest
from nesthall.reading import read
from nesthall.runs import said
from nesthall.shrinking import shrunk
from nesthall.sights import seen
from nesthall.tables import flat

MOST_ROWS = 300
WIDE = "WIDE"


def most_of(text):
    """The greatest number of rows that the text lets by; NoRow where it tells none."""
    try:
        most = read_number(text)
    except NoWords as e:
        raise NoRow("the row has no number where it asks one") from e
    if not 1 <= most <= MOST_ROWS:
        raise NoRow("the number of the row is out of bounds")
    return most


def number_named(name, names):
    """The number of the name among the names; NoName where it is none of them."""
    if name not in names:
        raise NoName("there is nothing of this name")
    return names.index(name)


def table_text(chart, most):
    """How many rows the flat table and the shrunken table have."""
    rows = flat(chart, most)[1]
    return " ".join([written(len(rows)), written(len(shrunk(rows)[1]))])


def never_text(chart, most):
    """The names of the rooms that are never met."""
    paths = seen(chart, most)[0]
    return " ".join([room[0] for room, path in zip(chart[5], paths) if path is None])


def way_text(chart, name, most):
    """The events of the way by which the room of this name is seen."""
    room = number_named(name, names_of(chart[5]))
    path = seen(chart, most)[0][room]
    if path is None:
        return "never"
    return " ".join(["by"] + [chart[4][event] for event in path])


class Desk:
    """The chart that a text tells, run from its beginning on."""

    def __init__(self, text):
        self.chart = read(text)
        self.nest = Nest(self.chart)

    def say(self, row):
        """The answer to the row, a text; NoRow where it is none that is known, NoName where it names nothing."""
        try:
            return self.answer_to(row.split(" "))
        except TooWide:
            return WIDE

    def answer_to(self, parts):
        """The answer to the row that has these parts; TooWide where the flat table is refused."""
        form = (parts[0], len(parts))
        if form == ("event", 2):
            return self.run_named(parts[1])
        if form == ("start", 1):
            return self.begin_anew()
        if form == ("rooms", 1):
            return " ".join([self.chart[5][room][0] for room in self.nest.stand()[0]])
        if form == ("lamps", 1):
            return " ".join(self.nest.lamps())
        if form == ("box", 2):
            return self.held_in(parts[1])
        if form == ("table", 2):
            return table_text(self.chart, most_of(parts[1]))
        if form == ("never", 2):
            return never_text(self.chart, most_of(parts[1]))
        if form == ("way", 3):
            return way_text(self.chart, parts[1], most_of(parts[2]))
        raise NoRow("a desk does not know this row")

    def run_named(self, name):
        """The words that the run of the event of this name says."""
        return " ".join(said(self.nest.run(number_named(name, self.chart[4]))))

    def begin_anew(self):
        """The words that the chart says when it begins, which it does anew."""
        self.nest = Nest(self.chart)
        return " ".join(said(self.nest.first()))

    def held_in(self, name):
        """The number that the box of this name holds."""
        return written(self.nest.stand()[1][number_named(name, names_of(self.chart[3]))])
