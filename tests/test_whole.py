"""The promise over all: what is run, what is told as a table and what is read do the same; no record goes astray."""

import itertools
import unittest

from by_words import is_parted_by, kids_of
from drawn import LIVELY, Draw, drawn_chart, renamed
from nesthall.charts import faults
from nesthall.desk import Desk
from nesthall.errors import TooWide
from nesthall.nest import Nest
from nesthall.parting import parting
from nesthall.reading import read
from nesthall.runs import after, begun, said
from nesthall.shrinking import shrunk
from nesthall.sights import seen
from nesthall.stands import is_full, is_stand
from nesthall.tables import flat
from nesthall.writing import shown
from samples import above, check_tuples, put
from written import CHARTS

YES = ("yes",)
# A mill with two sides that send each other letters, a keeper of each kind, and boxes that close doors.
MILL = ("outer", 2, 6, (("grain", 4, 1), ("load", 2, 0)), ("pour", "halt", "stir"), (
    ("mill", "one", 0, "near", "", (("say", "hello"),), (("say", "bye"),)),
    ("work", "all", 1, "deep", "green", (("set", 1, 0),), ()),
    ("stones", "one", 2, "near", "", (), ()),
    ("slow", "plain", 3, "", "dim", (), (("add", 0, 1),)),
    ("fast", "plain", 3, "", "bright", (("send", 2),), ()),
    ("sieve", "one", 2, "deep", "", (), ()),
    ("coarse", "all", 3, "", "", (), ()),
    ("upper", "plain", 4, "", "", (("say", "up"),), ()),
    ("lower", "plain", 4, "", "", (), (("say", "down"),)),
    ("fine", "plain", 3, "", "white", (), ()),
    ("rest", "one", 1, "", "red", (), (("send", 0),)),
    ("still", "plain", 2, "", "", (), ()),
    ("broken", "plain", 2, "", "", (("say", "crack"),), ()),
), (
    (3, 0, ("under", 0, 3), (("send", 2), ("say", "faster")), "to", 4),
    (4, 0, YES, (("add", 0, 2),), "to", 3),
    (6, 2, ("in", 4), (("say", "sift"),), "to", 9),
    (9, 2, ("not", ("is", 1, 1)), (("add", 1, 1),), "to", 8),
    (1, 1, YES, (("say", "halt"),), "to", 11),
    (11, 1, ("is", 0, 0), (), "to", 12),
    (11, 0, YES, (), "back", 1),
    (12, 2, YES, (("set", 0, 3),), "to", 0),
    (10, 2, ("either", ("is", 0, 1), ("is", 0, 3)), (), "back", 2),
))


def tables_of(asked):
    """All that is told of the flat table and of the shrunken one."""
    told = flat(asked, 300)
    return (*told, *shrunk(told[1]))


class Whole(unittest.TestCase):
    def follow(self, rooms, opening, record):
        """The opening behind the record, each step of which can be gone."""
        now = set(opening)
        for part in record:
            if part[0] == "out":
                self.assertIn(part[1], now)
                self.assertEqual(now & set(kids_of(rooms, part[1])), set())
                now.remove(part[1])
            if part[0] == "in":
                self.assertNotIn(part[1], now)
                for over in above(rooms, part[1])[:1]:
                    self.assertIn(over, now)
                    if rooms[over][1] == "one":
                        self.assertEqual(now & set(kids_of(rooms, over)), set())
                now.add(part[1])
        return tuple(sorted(now))

    def check_stand(self, asked, stand):
        """The stand is one of the chart, and full by the kinds of its rooms."""
        self.assertTrue(is_stand(asked, stand))
        self.assertTrue(is_full(asked[5], stand[0]))
        for room in stand[0]:
            own = kids_of(asked[5], room)
            count = len([kid for kid in own if kid in stand[0]])
            self.assertEqual(count, {"plain": 0, "one": 1, "all": len(own)}[asked[5][room][1]])

    def check_answers(self, asked, desk, lamps, stand):
        """The desk answers by these lamps, and by the rooms and the boxes of the stand."""
        opening, held, _ = stand
        self.assertEqual(desk.say("lamps"), " ".join(lamps))
        self.assertEqual(desk.say("rooms"), " ".join(asked[5][room][0] for room in opening))
        self.assertEqual([desk.say("box " + box[0]) for box in asked[3]], [str(number) for number in held])

    def walk(self, asked, table, events):
        """The chart is run along the events, and with it the flat table, the shrunken one, and a desk by its text."""
        words, rows, stands, fold, small = table
        nest, desk = Nest(asked), Desk(shown(asked))
        row = small_row = 0
        self.assertEqual(tuple(said(nest.first())), words)
        self.assertEqual(desk.say("start"), " ".join(words))
        self.assertEqual(self.follow(asked[5], (), nest.first()), nest.stand()[0])
        for event in (None, *events):
            before = nest.stand()
            if event is not None:
                record = nest.run(event)
                spoken, row = rows[row][1][event]
                self.assertEqual(tuple(said(record)), spoken)
                self.assertEqual(desk.say("event " + asked[4][event]), " ".join(spoken))
                spoken, small_row = small[small_row][1][event]
                self.assertEqual(tuple(said(record)), spoken)
                self.assertEqual(self.follow(asked[5], before[0], record), nest.stand()[0])
            self.assertEqual(stands[row], nest.stand())
            self.assertEqual(rows[row][0], nest.lamps())
            self.assertEqual(small[small_row][0], nest.lamps())
            self.assertEqual(fold[row], small_row)
            self.check_stand(asked, nest.stand())
            self.check_answers(asked, desk, small[small_row][0], stands[row])

    def check_partings(self, rows):
        """Each two rows of the shrunken table are parted, in it and in the flat one; how many pairs there are."""
        fold, small = shrunk(rows)
        pairs = list(itertools.combinations(range(len(small)), 2))
        for one, other in pairs:
            way = parting(small, one, other)
            self.assertIsNotNone(way)
            self.assertTrue(is_parted_by(small, one, other, way))
            self.assertTrue(is_parted_by(rows, fold.index(one), fold.index(other), way))
            self.assertEqual(parting(rows, fold.index(one), fold.index(other)), way)
        for row, number in enumerate(fold):
            self.assertIsNone(parting(rows, row, fold.index(number)))
        return len(pairs)

    def check_sights(self, asked, stands):
        """What is never met is met in no run from the stands, and these end in them; how many are never met."""
        runs = [after(asked, stand, event) for stand in stands for event in range(len(asked[4]))]
        self.assertEqual({end for end, _ in runs} - set(stands), set())
        met = {part for _, record in (begun(asked), *runs) for part in record}
        rooms, doors = seen(asked, len(stands))
        self.assertEqual([way is not None for way in rooms], [("in", room) in met for room in range(len(asked[5]))])
        self.assertEqual([way is not None for way in doors], [("door", door) in met for door in range(len(asked[6]))])
        return (rooms + doors).count(None)

    def check_ways(self, asked):
        """The chart is run along each way that is seen, and meets by its last run what is seen, by none ahead."""
        for mark, found in zip(("in", "door"), seen(asked, 300)):
            for number, way in enumerate(found):
                nest = Nest(asked)
                records = [nest.first()] + [nest.run(event) for event in way or ()]
                meets = [(mark, number) in record for record in records]
                self.assertEqual(meets, [False] * (len(meets) - 1) + [way is not None])

    def test_the_mill_along_each_short_row_of_events(self):
        self.assertEqual(faults(MILL), [])
        for order, letters, turns in itertools.product(("inner", "outer"), (0, 2), (1, 6)):
            asked = (order, letters, turns) + MILL[3:]
            table = tables_of(asked)
            self.assertGreater(len(table[1]), 10)
            for events in itertools.product(range(3), repeat=5):
                self.walk(asked, table, events)

    def test_the_mill_along_long_rows_of_events(self):
        table = tables_of(MILL)
        for seed in range(20):
            draw = Draw(seed)
            self.walk(MILL, table, [draw.below(3) for _ in range(100)])

    def test_drawn_charts_along_drawn_rows_of_events(self):
        rows = 0
        for seed in (*range(400), *LIVELY):
            asked = drawn_chart(seed)
            table = tables_of(asked)
            rows += len(table[1])
            draw = Draw(seed)
            for _ in range(3):
                count = 40 if seed in LIVELY else 12
                self.walk(asked, table, [draw.below(len(asked[4])) for _ in range(count)] if asked[4] else [])
        self.assertGreater(rows, 2000)

    def test_partings_sights_and_ways_of_the_mill(self):
        for order, letters, turns in itertools.product(("inner", "outer"), (0, 2), (1, 6)):
            asked = (order, letters, turns) + MILL[3:]
            table = flat(asked, 300)
            self.assertGreater(self.check_partings(table[1]), 40)
            self.check_sights(asked, table[2])
            self.check_ways(asked)

    def test_partings_sights_and_ways_of_drawn_charts(self):
        pairs = never = lesser = 0
        for seed in (*range(200), *LIVELY):
            asked = drawn_chart(seed)
            _, rows, stands, _, small = tables_of(asked)
            if seed in LIVELY:
                self.assertGreaterEqual(len(small), 12)
            pairs += self.check_partings(rows)
            never += self.check_sights(asked, stands)
            lesser += 1 < len(small) < len(rows)
            self.check_ways(asked)
        self.assertGreater(pairs, 5000)
        self.assertGreater(never, 1000)
        self.assertGreater(lesser, 40)

    def check_text(self, asked):
        """The chart is written, read to the same chart, and written by this to the same text, to the last sign."""
        text = shown(asked)
        again = read(text)
        self.assertEqual(again, asked)
        check_tuples(self, again)
        self.assertEqual(shown(again), text)
        return text

    def test_texts_of_charts(self):
        texts = {}
        for chart, rows in CHARTS:
            self.assertEqual(self.check_text(chart), "\n".join(rows))
        for asked in (MILL, *[drawn_chart(seed) for seed in (*range(600), *LIVELY)]):
            for chart in (asked, renamed(asked)):
                # Unlike charts have unlike texts.
                self.assertEqual(texts.setdefault(self.check_text(chart), chart), chart)
        self.assertGreater(len(texts), 1000)

    def test_the_table_of_a_chart_that_is_read(self):
        for order, letters, turns in itertools.product(("inner", "outer"), (0, 2), (1, 6)):
            asked = (order, letters, turns) + MILL[3:]
            table = tables_of(asked)
            self.assertEqual(tables_of(read(shown(asked))), table)
            self.assertEqual(Desk(shown(asked)).say("table 300"), f"{len(table[1])} {len(table[4])}")

    def test_each_way_of_a_refusal_leads_to_another_stand(self):
        asked = put(MILL, 3, (("grain", 10 ** 30, 1), ("load", 2, 0)))
        with self.assertRaises(TooWide) as caught:
            flat(asked, 40)
        ends = []
        for way in caught.exception.ways:
            nest = Nest(asked)
            for event in way:
                nest.run(event)
            ends.append(nest.stand())
        self.assertEqual(len(set(ends)), 41)


if __name__ == "__main__":
    unittest.main()
