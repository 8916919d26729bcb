import itertools
import unittest

from drawn import LIVELY, Draw, drawn_chart, renamed
from nesthall.desk import Desk
from nesthall.errors import NestError, NoName, NoRow, Unread
from nesthall.nest import Nest
from nesthall.runs import said
from nesthall.shrinking import shrunk
from nesthall.sights import seen
from nesthall.tables import flat
from nesthall.writing import shown
from written import BARE, CHARTS, GREATEST, OWN_NAMES

GATE = (
    "order inner", "letters 2", "turns 4", "box coins 3 0", f"box total {GREATEST} 5",
    "event knock", "event ring", "event wait",
    "one house", "in say hello",
    "  one hall keeps near lamp dim",
    "    plain nook lamp red",
    "    plain stair", "in say step",
    "  plain cellar lamp dark",
    "  all loft",
    "    plain beam",
    "    plain twig",
    "door nook knock to stair", "do add coins 1",
    "door stair knock to nook", "do say down", "do say slow",
    "door hall ring to cellar", "when not is coins 0",
    "door cellar ring back hall", "do say back",
)
TEXT = "\n".join(GATE)
# Rows whose answers tell all that a desk keeps.
ASKING = ("rooms", "lamps", "box coins", "box total")
NO_ROWS = (
    "", " ", "  ", "\n", "event", "event knock ring", "event knock ", "event  knock", " event knock", "Event knock",
    "EVENT knock", "events knock", "event\nknock", "knock", "start ", " start", "start now", "Start", "start\n",
    "\nstart", "begin", "rooms ", " rooms", "rooms hall", "room", "Rooms", "rooms\n", "lamps ", "lamps dim", "lamp",
    "lamps lamps", "box", "box coins 1", "box coins ", "box  coins", " box coins", "boxes", "Box coins", "table",
    "table ", "table  5", "table 5 ", "table 5 5", "table 0", "table 301", "table 1000", "table -1", "table 01",
    "table 00", "table -0", "table +1", "table x", "table 5x", "table 5\n", "table five", "table " + "9" * 300,
    "Table 5", "never", "never ", "never 0", "never 301", "never 01", "never +1", "never -5", "never x", "never 5 ",
    "never 5 5", "never  5", "never hall 5", "way", "way hall", "way hall ", "way hall 0", "way hall 301",
    "way hall 01", "way hall +1", "way hall x", "way hall 5 ", "way hall  5", "way  hall 5", "way hall nook 5",
    "way 5 hall", "way  0", "way  301", "way  ", "way ", "way nowhere 0", "way nowhere 301", "way nowhere 01",
    "way nowhere +1", "way nowhere ", "way nowhere x", "ways hall 5", "WIDE", "by", "stand", "first", "say hello",
    "order inner", "door nook knock stay", "when yes", "0", "rooms\nlamps",
)
NO_NAMES = (
    "event ", "event nowhere", "event hall", "event coins", "event Knock", "event knoc", "event knocks", "event 0",
    "event knock\n", "event \n", "box ", "box nowhere", "box hall", "box knock", "box Coins", "box coin", "box coinss",
    "box 0", "box coins\n", "way nowhere 300", "way  300", "way coins 300", "way knock 300", "way Hall 300",
    "way hal 300", "way halls 300", "way 0 300", "way nowhere 1", "way  1", "way hall\n 5", "way coins 1", "way by 22",
)


def told(desk):
    """All that a desk keeps, by its answers."""
    return [desk.say(row) for row in ASKING]


class Answers(unittest.TestCase):
    def check(self, desk, rows):
        for row, answer in rows:
            with self.subTest(row):
                self.assertEqual(desk.say(row), answer)

    def test_events_rooms_lamps_and_boxes(self):
        self.check(Desk(TEXT), (
            ("rooms", "house hall nook"),
            ("lamps", "dim red"),
            ("box coins", "0"),
            ("box total", "5"),
            ("event wait", ""),
            ("event ring", ""),
            ("rooms", "house hall nook"),
            ("event knock", "step"),
            ("rooms", "house hall stair"),
            ("lamps", "dim"),
            ("box coins", "1"),
            ("event ring", ""),
            ("rooms", "house cellar"),
            ("lamps", "dark"),
            ("event knock", ""),
            ("event ring", "back step"),
            ("rooms", "house hall stair"),
            ("event knock", "down slow"),
            ("rooms", "house hall nook"),
            ("event knock", "step"),
            ("event knock", "down slow"),
            ("box coins", "2"),
            ("event ring", ""),
            ("event ring", "back"),
            ("rooms", "house hall nook"),
            ("event knock", "step"),
            ("box coins", "0"),
            ("event ring", ""),
            ("rooms", "house hall stair"),
        ))

    def test_start(self):
        desk = Desk(TEXT)
        first = told(desk)
        self.check(desk, (("start", "hello"), ("start", "hello")))
        for count in range(6):
            for _ in range(count):
                desk.say("event knock")
                desk.say("event ring")
            self.assertEqual(desk.say("start"), "hello")
            self.assertEqual(told(desk), first)
        # What was kept is forgotten too: the cellar leads back to the nook, not to the stair.
        self.check(desk, (
            ("event knock", "step"), ("event ring", ""), ("start", "hello"), ("event knock", "step"),
            ("event knock", "down slow"), ("event ring", ""), ("event ring", "back"), ("rooms", "house hall nook"),
        ))

    def test_a_chart_that_says_nothing(self):
        rows = ["order inner", "letters 0", "turns 1", "event ring", "one yard", "  plain ash", "  plain bee",
                "door ash ring to bee"]
        self.check(Desk("\n".join(rows)), (
            ("start", ""), ("lamps", ""), ("rooms", "yard ash"), ("event ring", ""), ("lamps", ""),
            ("rooms", "yard bee"), ("start", ""), ("rooms", "yard ash"), ("table 300", "2 1"), ("table 2", "2 1"),
            ("table 1", "WIDE"),
        ))

    def test_a_chart_that_says_several_words_when_it_begins(self):
        rows = [
            "order inner", "letters 1", "turns 2", "event ring", "all yard", "in say one", "in send ring",
            "  plain ash", "in say two", "  plain bee", "door ash ring stay", "do say three", "do say three",
        ]
        self.check(Desk("\n".join(rows)), (("start", "one two three three"), ("event ring", "three three"),
                                           ("rooms", "yard ash bee"), ("table 1", "1 1"), ("way bee 1", "by")))

    def test_a_bare_chart(self):
        self.check(Desk("\n".join(BARE[1])), (
            ("rooms", "yard"), ("lamps", ""), ("start", ""), ("table 1", "1 1"), ("table 300", "1 1"), ("never 1", ""),
            ("way yard 1", "by"),
        ))

    def test_great_numbers(self):
        rows = [
            "order inner", "letters 0", "turns 1", f"box coins {GREATEST} {GREATEST - 1}", "event ring", "plain yard",
            "door yard ring stay", "do add coins -1", "do say a",
        ]
        self.check(Desk("\n".join(rows)), (
            ("box coins", "9" * 30), ("event ring", "a"), ("box coins", "9" * 29 + "8"), ("table 300", "WIDE"),
            ("never 300", "WIDE"), ("way yard 300", "WIDE"), ("box coins", "9" * 29 + "8"), ("start", ""),
            ("box coins", "9" * 30),
        ))

    def test_names_that_are_words_of_the_rows(self):
        rows = [
            "order inner", "letters 0", "turns 1", "box box 5 3", "box start 5 4", "event event", "event rooms",
            "one way", "  plain start lamp table", "  plain never lamp rooms", "  plain box",
            "door start event to never", "do say start", "do say event",
        ]
        self.check(Desk("\n".join(rows)), (
            ("box box", "3"), ("box start", "4"), ("event rooms", ""), ("rooms", "way start"), ("lamps", "table"),
            ("event event", "start event"), ("rooms", "way never"), ("lamps", "rooms"), ("never 2", "box"),
            ("way never 2", "by event"), ("way way 2", "by"), ("way box 2", "never"), ("table 2", "2 2"), ("start", ""),
            ("rooms", "way start"),
        ))

    def test_table_never_and_way(self):
        rows = (
            ("table 300", "22 10"), ("table 22", "22 10"), ("table 21", "WIDE"), ("table 1", "WIDE"),
            ("never 300", "loft beam twig"), ("never 22", "loft beam twig"), ("never 21", "WIDE"), ("never 1", "WIDE"),
            ("way house 300", "by"), ("way hall 22", "by"), ("way nook 22", "by"), ("way stair 22", "by knock"),
            ("way cellar 22", "by knock ring"), ("way cellar 300", "by knock ring"), ("way cellar 21", "WIDE"),
            ("way loft 22", "never"), ("way beam 300", "never"), ("way twig 22", "never"), ("way loft 21", "WIDE"),
            ("way house 21", "WIDE"), ("way house 1", "WIDE"),
        )
        desk = Desk(TEXT)
        self.check(desk, rows)
        for event in ("knock", "ring", "knock", "ring", "knock", "knock"):
            desk.say("event " + event)
            before = told(desk)
            self.check(desk, rows)
            self.assertEqual(told(desk), before)

    def test_asking_between_events_changes_nothing(self):
        ways = ("way cellar 300", "way loft 22", "way hall 1")
        asking = ("table 300", "table 21", "never 300", "never 21", *ways, *ASKING)
        for events in itertools.product(("knock", "ring", "wait"), repeat=5):
            desk, twin = Desk(TEXT), Desk(TEXT)
            for place, event in enumerate((*events, "ring", "ring")):
                desk.say(asking[(place + len(event)) % len(asking)])
                self.assertEqual(desk.say("event " + event), twin.say("event " + event))
                self.assertEqual(told(desk), told(twin))

    def test_a_room_that_is_met_by_the_way_alone(self):
        # The letter leads on at once, so that no run ends in the room ash.
        rows = [
            "order inner", "letters 1", "turns 2", "event ring", "event call", "one yard", "  plain elm", "  plain ash",
            "  plain bee", "  plain cow", "door elm call to ash", "do send ring", "door ash ring to bee",
        ]
        self.check(Desk("\n".join(rows)), (
            ("table 300", "2 1"), ("never 2", "cow"), ("way ash 2", "by call"), ("way bee 2", "by call"),
            ("never 1", "WIDE"), ("way elm 2", "by"), ("way cow 2", "never"), ("way cow 1", "WIDE"),
        ))

    def test_three_hundred_rows_and_one_more(self):
        def counting(size):
            rows = [
                "order inner", "letters 0", "turns 1", f"box coins {size} 0", "event add", "one yard", "  plain ash",
                "  plain bee", "door ash add stay", "do add coins 1",
            ]
            return Desk("\n".join(rows))

        self.check(counting(300), (
            ("table 300", "300 1"), ("table 299", "WIDE"), ("never 300", "bee"), ("never 299", "WIDE"),
            ("way bee 300", "never"), ("way ash 299", "WIDE"),
        ))
        self.check(counting(301), (("table 300", "WIDE"), ("never 300", "WIDE"), ("way ash 300", "WIDE")))

    def test_the_kind_of_an_answer(self):
        desk = Desk(TEXT)
        for row in ("event knock", "event wait", "start", "table 300", "table 1", "never 300", "way hall 300", *ASKING):
            self.assertIs(type(desk.say(row)), str)


class Refusals(unittest.TestCase):
    def check(self, desk, twin, row, refusal):
        """The row is refused, and changes nothing: the desk goes on as its twin."""
        with self.subTest(row):
            before = told(desk)
            with self.assertRaises(NestError) as caught:
                desk.say(row)
            self.assertIs(type(caught.exception), refusal)
            self.assertEqual(told(desk), before)
            self.assertEqual(told(twin), before)

    def test_rows_that_are_none(self):
        desk, twin = Desk(TEXT), Desk(TEXT)
        for row in NO_ROWS:
            self.check(desk, twin, row, NoRow)

    def test_names_that_are_none(self):
        desk, twin = Desk(TEXT), Desk(TEXT)
        for row in NO_NAMES:
            self.check(desk, twin, row, NoName)

    def test_refusals_between_events(self):
        desk, twin = Desk(TEXT), Desk(TEXT)
        events = itertools.cycle(("knock", "ring", "ring", "wait"))
        for row, refusal in [(row, NoRow) for row in NO_ROWS] + [(row, NoName) for row in NO_NAMES]:
            event = next(events)
            self.assertEqual(desk.say("event " + event), twin.say("event " + event))
            self.check(desk, twin, row, refusal)

    def test_each_most(self):
        desk = Desk(TEXT)
        for most in range(-3, 310):
            for row in ("table", "never", "way house"):
                if 1 <= most <= 300:
                    self.assertEqual(desk.say(f"{row} {most}") == "WIDE", most < 22)
                else:
                    self.check(desk, desk, f"{row} {most}", NoRow)

    def test_names_where_the_flat_table_would_be_refused(self):
        rows = [
            "order inner", "letters 0", "turns 1", "box coins 301 0", "event ring", "plain yard", "door yard ring stay",
            "do add coins 1",
        ]
        desk = Desk("\n".join(rows))
        for most in (1, 299, 300):
            self.assertEqual(desk.say(f"way yard {most}"), "WIDE")
            for name in ("nowhere", "", "coins", "ring"):
                with self.assertRaises(NoName):
                    desk.say(f"way {name} {most}")

    def test_a_chart_without_boxes_and_events(self):
        desk = Desk("\n".join(BARE[1]))
        for row in ("box ", "box yard", "event ", "event yard", "way  5", "way shed 5"):
            with self.subTest(row):
                with self.assertRaises(NoName):
                    desk.say(row)

    def test_texts_that_are_refused(self):
        for text, row in (
            ("", 1), (TEXT + "\n", len(GATE) + 1), (" " + TEXT, 1), ("order inner", 2), ("\n".join(GATE[:9]), 10),
            ("\n".join(GATE[:11]), 12), ("\n".join((*GATE[:12], "x", *GATE[12:])), 13),
            (TEXT + "\nwhen yes", len(GATE) + 1), (TEXT.replace("turns 4", "turns 21"), 3),
            (TEXT.replace("back hall", "back nook"), 26), ("rooms", 1),
        ):
            with self.subTest(row):
                with self.assertRaises(Unread) as caught:
                    Desk(text)
                self.assertEqual(caught.exception.row, row)


class Beside(unittest.TestCase):
    def test_two_desks_of_one_text(self):
        one, other = Desk(TEXT), Desk(TEXT)
        first = told(other)
        one.say("event knock")
        one.say("event ring")
        self.assertEqual(told(other), first)
        self.assertEqual(other.say("event knock"), "step")
        self.assertEqual(one.say("rooms"), "house cellar")
        self.assertEqual(one.say("start"), "hello")
        self.assertEqual(other.say("rooms"), "house hall stair")
        self.assertEqual(told(one), first)

    def test_two_desks_of_two_texts(self):
        one, other = Desk(TEXT), Desk("\n".join(OWN_NAMES[1]))
        before = other.say("rooms")
        one.say("event knock")
        self.assertEqual(other.say("rooms"), before)
        with self.assertRaises(NoName):
            other.say("event knock")
        self.assertEqual(one.say("table 300"), "22 10")


class Drawn(unittest.TestCase):
    def follow(self, asked, events):
        """The desk answers, along these events, by what the nest says, its open rooms, its lamps and its boxes."""
        desk, nest = Desk(shown(asked)), Nest(asked)
        self.assertEqual(desk.say("start"), " ".join(said(nest.first())))
        for event in (None, *events):
            if event is not None:
                self.assertEqual(desk.say("event " + asked[4][event]), " ".join(said(nest.run(event))))
            opening, held, _ = nest.stand()
            self.assertEqual(desk.say("rooms"), " ".join(asked[5][room][0] for room in opening))
            self.assertEqual(desk.say("lamps"), " ".join(nest.lamps()))
            self.assertEqual([desk.say("box " + box[0]) for box in asked[3]], [str(number) for number in held])
        return desk

    def check_asking(self, desk, asked):
        """The desk answers of tables and sights by what these tell."""
        rows = flat(asked, 300)[1]
        ways = seen(asked, 300)[0]
        names = [room[0] for room in asked[5]]
        for most in {1, max(len(rows) - 1, 1), len(rows), 300}:
            narrow = len(rows) <= most
            self.assertEqual(desk.say(f"table {most}"), f"{len(rows)} {len(shrunk(rows)[1])}" if narrow else "WIDE")
            never = " ".join(name for name, way in zip(names, ways) if way is None)
            self.assertEqual(desk.say(f"never {most}"), never if narrow else "WIDE")
        for name, way in zip(names, ways):
            answer = "never" if way is None else " ".join(["by"] + [asked[4][event] for event in way])
            self.assertEqual(desk.say(f"way {name} {len(rows)}"), answer)

    def test_drawn_charts(self):
        for seed in range(150):
            asked = renamed(drawn_chart(seed)) if seed % 2 else drawn_chart(seed)
            draw = Draw(seed)
            desk = self.follow(asked, [draw.below(len(asked[4])) for _ in range(15)] if asked[4] else [])
            self.check_asking(desk, asked)

    def test_lively_charts(self):
        for seed in LIVELY:
            asked = drawn_chart(seed)
            draw = Draw(seed)
            desk = self.follow(asked, [draw.below(len(asked[4])) for _ in range(40)])
            if seed < 4000:
                self.check_asking(desk, asked)

    def test_written_charts(self):
        for chart, _ in CHARTS:
            draw = Draw(len(chart[5]))
            self.follow(chart, [draw.below(len(chart[4])) for _ in range(30)] if chart[4] else [])


if __name__ == "__main__":
    unittest.main()
