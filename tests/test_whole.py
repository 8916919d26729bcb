"""The promise over all: what is run and what is told as a table do the same, and no record goes astray."""

import itertools
import unittest

from by_words import kids_of
from drawn import Draw, drawn_chart
from nesthall.charts import faults
from nesthall.errors import TooWide
from nesthall.nest import Nest
from nesthall.runs import said
from nesthall.stands import is_full, is_stand
from nesthall.tables import flat
from samples import above, put

YES = ("yes",)
# A mill with two sides that send each other letters, a keeper of each kind, and boxes that close doors.
MILL = ("outer", 2, 6, (("grain", 4, 1), ("load", 2, 0)), ("pour", "halt", "stir"), (
    ("mill", "one", 0, "near", "", (("say", "hello"),), (("say", "bye"),)),
    ("work", "all", 1, "deep", "green", (("set", 1, 0),), ()),
    ("stones", "one", 2, "near", "", (), ()),
    ("slow", "plain", 3, "", "dim", (), (("add", 0, 1),)),
    ("fast", "plain", 3, "", "bright", (("send", 2),), ()),
    ("sieve", "one", 2, "deep", "", (), ()),
    ("coarse", "all", 3, "", "", (), ()),
    ("upper", "plain", 4, "", "", (("say", "up"),), ()),
    ("lower", "plain", 4, "", "", (), (("say", "down"),)),
    ("fine", "plain", 3, "", "white", (), ()),
    ("rest", "one", 1, "", "red", (), (("send", 0),)),
    ("still", "plain", 2, "", "", (), ()),
    ("broken", "plain", 2, "", "", (("say", "crack"),), ()),
), (
    (3, 0, ("under", 0, 3), (("send", 2), ("say", "faster")), "to", 4),
    (4, 0, YES, (("add", 0, 2),), "to", 3),
    (6, 2, ("in", 4), (("say", "sift"),), "to", 9),
    (9, 2, ("not", ("is", 1, 1)), (("add", 1, 1),), "to", 8),
    (1, 1, YES, (("say", "halt"),), "to", 11),
    (11, 1, ("is", 0, 0), (), "to", 12),
    (11, 0, YES, (), "back", 1),
    (12, 2, YES, (("set", 0, 3),), "to", 0),
    (10, 2, ("either", ("is", 0, 1), ("is", 0, 3)), (), "back", 2),
))


class Whole(unittest.TestCase):
    def follow(self, rooms, opening, record):
        """The opening behind the record, each step of which can be gone."""
        now = set(opening)
        for part in record:
            if part[0] == "out":
                self.assertIn(part[1], now)
                self.assertEqual(now & set(kids_of(rooms, part[1])), set())
                now.remove(part[1])
            if part[0] == "in":
                self.assertNotIn(part[1], now)
                for over in above(rooms, part[1])[:1]:
                    self.assertIn(over, now)
                    if rooms[over][1] == "one":
                        self.assertEqual(now & set(kids_of(rooms, over)), set())
                now.add(part[1])
        return tuple(sorted(now))

    def check_stand(self, asked, stand):
        """The stand is one of the chart, and full by the kinds of its rooms."""
        self.assertTrue(is_stand(asked, stand))
        self.assertTrue(is_full(asked[5], stand[0]))
        for room in stand[0]:
            own = kids_of(asked[5], room)
            count = len([kid for kid in own if kid in stand[0]])
            self.assertEqual(count, {"plain": 0, "one": 1, "all": len(own)}[asked[5][room][1]])

    def walk(self, asked, table, events):
        """The chart is run along the events, and the table with it."""
        words, rows, stands = table
        nest = Nest(asked)
        row = 0
        self.assertEqual(tuple(said(nest.first())), words)
        self.assertEqual(self.follow(asked[5], (), nest.first()), nest.stand()[0])
        for event in (None, *events):
            before = nest.stand()
            if event is not None:
                record = nest.run(event)
                spoken, row = rows[row][1][event]
                self.assertEqual(tuple(said(record)), spoken)
                self.assertEqual(self.follow(asked[5], before[0], record), nest.stand()[0])
            self.assertEqual(stands[row], nest.stand())
            self.assertEqual(rows[row][0], nest.lamps())
            self.check_stand(asked, nest.stand())

    def test_the_mill_along_each_short_row_of_events(self):
        self.assertEqual(faults(MILL), [])
        for order, letters, turns in itertools.product(("inner", "outer"), (0, 2), (1, 6)):
            asked = (order, letters, turns) + MILL[3:]
            table = flat(asked, 300)
            self.assertGreater(len(table[1]), 10)
            for events in itertools.product(range(3), repeat=5):
                self.walk(asked, table, events)

    def test_the_mill_along_long_rows_of_events(self):
        table = flat(MILL, 300)
        for seed in range(20):
            draw = Draw(seed)
            self.walk(MILL, table, [draw.below(3) for _ in range(100)])

    def test_drawn_charts_along_drawn_rows_of_events(self):
        rows = 0
        for seed in range(400):
            asked = drawn_chart(seed)
            table = flat(asked, 300)
            rows += len(table[1])
            draw = Draw(seed)
            for _ in range(3):
                self.walk(asked, table, [draw.below(len(asked[4])) for _ in range(12)] if asked[4] else [])
        self.assertGreater(rows, 1000)

    def test_each_way_of_a_refusal_leads_to_another_stand(self):
        asked = put(MILL, 3, (("grain", 10 ** 30, 1), ("load", 2, 0)))
        with self.assertRaises(TooWide) as caught:
            flat(asked, 40)
        ends = []
        for way in caught.exception.ways:
            nest = Nest(asked)
            for event in way:
                nest.run(event)
            ends.append(nest.stand())
        self.assertEqual(len(set(ends)), 41)


if __name__ == "__main__":
    unittest.main()
