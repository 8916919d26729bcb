"""A nest: a chart that is run, from its beginning on, event by event."""

from nesthall.charts import faults, is_number_of
from nesthall.errors import BadChart, NoEvent
from nesthall.runs import after, begun
from nesthall.stands import lamps


class Nest:
    """A chart that is run, and the stand in which it rests."""

    def __init__(self, chart):
        found = faults(chart)
        if len(found) > 0:
            raise BadChart(found)
        told = begun(chart)
        self.chart = chart
        self.place = told[0]
        self.beginning = told[1]

    def first(self):
        """The record of the chart's beginning, a list of the asker's own."""
        return list(self.beginning)

    def run(self, event):
        """The record of the event's run, a list of the asker's own; NoEvent where the chart has no such event."""
        if not is_number_of(event, self.chart[4]):
            raise NoEvent(event)
        told = after(self.chart, self.place, event)
        self.place = told[0]
        return told[1]

    def stand(self):
        """The stand in which the chart rests."""
        return self.place

    def lamps(self):
        """The lamps of the rooms that are open, a tuple."""
        return lamps(self.chart[5], self.place[0])
