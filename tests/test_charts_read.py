import unittest

from by_rows import expected_row
from drawn import LIVELY, Draw, drawn_chart, renamed
from nesthall.charts import faults
from nesthall.errors import NestError, NoWords, Unread
from nesthall.reading import read
from nesthall.writing import shown
from samples import check_tuples
from written import CHARTS, DEEP, GREATEST, HOUSE, NOUGHTS, OWN_NAMES

SMALL = (
    "order inner",                 # 1
    "letters 1",                   # 2
    "turns 1",                     # 3
    "box coins 5 0",               # 4
    "box keys 3 2",                # 5
    "event knock",                 # 6
    "event ring",                  # 7
    "one house keeps near",        # 8
    "in say hello",                # 9
    "out set coins 4",             # 10
    "  all hall keeps deep",       # 11
    "    plain nook lamp red",     # 12
    "in add coins -1",             # 13
    "    plain stair",             # 14
    "out send knock",              # 15
    "  plain cellar",              # 16
    "door nook knock to cellar",   # 17
    "when not in stair",           # 18
    "do say creak",                # 19
    "door cellar ring back hall",  # 20
    "do set keys 0",               # 21
    "door house ring stay",        # 22
    "when is coins 3",             # 23
    "do send ring",                # 24
)
LETTERS = "abcdefghijklmnopqrstuvwxyz"
KINDS = ("plain", "one", "all")
NAMES = [one + other for one in LETTERS for other in LETTERS]
# Rows that can stand nowhere.
NOWHERE = (
    "", " ", "  ", "order", "order ", "order middle", "order  inner", "order Inner", "Order inner", "order inner outer",
    "order inner ", " order inner", "  order inner", "orderinner", "letters", "letters 13", "letters -1", "letters 01",
    "letters x", "letters 1 ", "letters 1 1", "letter 1", "turns", "turns 0", "turns 21", "turns -1", "turns 01", "box",
    "box tin", "box tin 5", "box tin 5 ", "box tin 5 0 0", "box Tin 5 0", "box tin 0 0", "box tin 5 5", "box tin -1 0",
    "box tin 5 -1", "box tin 05 0", "box tin 5 00", "box tin 5 -0", "box tin x 0", "box  5 0", "box abcdefghijklm 5 0",
    "box tin 1" + NOUGHTS[1:] + "01 0", "  box tin 5 0", "event", "event ", "event Bell", "event bell bell", "event b1",
    "event abcdefghijklm", " event bell", "events bell", "plain", "plain ", "  plain", "  plain ", " plain shed",
    "   plain shed", "  plain  shed", "  plain shed ", "  Plain shed", "  plain Shed", "  plain shed shed",
    "  plains shed", "  room shed", "room shed", "  plain shed keeps near", "  plain shed keeps deep",
    "  one shed keeps", "  one shed keeps ", "  one shed keeps far", "  one shed keeps near near", "  one shed near",
    "  one shed lamp", "  one shed lamp ", "  one shed lamp Red", "  one shed lamp red keeps near",
    "  one shed lamp red lamp red", "  one shed keeps near keeps near", "  one shed keeps  lamp red",
    "  all shed keeps near", "  one shed lamp abcdefghijklm", "  two shed", "  plain abcdefghijklm",
    "                          plain shed", "in", "in ", "in say", "in say ", "in say A", "in say a b", " in say a",
    "  in say a", "in  say a", "in say a ", "in hush a", "In say a", "in in say a", "in set nowhere 0",
    "in send nowhere", "out", "out ", "out say", "out say A", "  out say a", "out say a ", "out out say a", "ins say a",
    "when", "when ", "when yes", "when yes ", "when no", " when not yes", "when not yes ", "when  not yes", "when not",
    "When not yes", "when not yes yes", "when not not not not not not yes", "when in nowhere", "when is nowhere 0",
    "do", "do ", "do say", "do say A", "do nothing", " do say a", "do  say a", "do say a ", "do do say a", "door",
    "door ", "door a", "door a b", "door a b to", "door a b stay", "door nowhere nowhere stay", " door a b stay",
    "door  stay", "doors a b stay", "end", "# a remark", "yes", "hall", "0",
)


class Reader(unittest.TestCase):
    def refused(self, text, row):
        """The text is refused by this row."""
        with self.subTest(f"{text[-60:]!r} {row}"):
            with self.assertRaises(Unread) as caught:
                read(text)
            self.assertEqual(caught.exception.row, row)
            self.assertIs(type(caught.exception.row), int)
            self.assertIsInstance(caught.exception, NestError)
            self.assertNotIsInstance(caught.exception, NoWords)

    def refused_rows(self, rows, row):
        self.refused("\n".join(rows), row)

    def read_rows(self, rows):
        """The rows are read to a chart that is shown by them."""
        text = "\n".join(rows)
        chart = read(text)
        check_tuples(self, chart)
        self.assertEqual(faults(chart), [])
        self.assertEqual(shown(chart), text)
        return chart

    def check(self, text):
        """The text is read, or refused by the row that is expected; whether it is read."""
        row = expected_row(text)
        if row is None:
            self.read_rows(text.split("\n"))
        else:
            self.refused(text, row)
        return row is None


class Charts(Reader):
    def test_written_charts(self):
        for chart, rows in CHARTS:
            with self.subTest(rows[3]):
                self.assertEqual(self.read_rows(rows), chart)

    def test_drawn_charts(self):
        for seed in (*range(300), *LIVELY):
            for chart in (drawn_chart(seed), renamed(drawn_chart(seed))):
                self.assertEqual(self.read_rows(shown(chart).split("\n")), chart)

    def test_a_chart_with_as_many_of_all_as_there_may_be(self):
        deeds = [f"set {NAMES[box]} {box}" for box in range(6)] + ["say hello", "send aa"]
        rows = ["order outer", "letters 12", "turns 20"]
        rows += [f"box {NAMES[box]} {GREATEST} {GREATEST - 1}" for box in range(6)]
        rows += [f"event {name}" for name in NAMES[:8]]
        for room in range(40):
            kind = "one" if room < 12 else "plain"
            rows.append("  " * min(room, 12) + f"{kind} {NAMES[room]}" + " keeps deep" * (room < 12) + " lamp red")
            rows += ["in " + deed for deed in deeds] + ["out " + deed for deed in deeds]
        for door in range(60):
            rows.append(f"door {NAMES[door % 40]} {NAMES[door % 8]} back {NAMES[door % 12]}")
            rows += ["when not not not not not in aa", *["do " + deed for deed in deeds]]
        chart = self.read_rows(rows)
        self.assertEqual([len(part) for part in chart[3:]], [6, 8, 40, 60])

    def test_a_text_that_is_cut_where_a_chart_may_end(self):
        for chart, rows in CHARTS:
            waiting = True
            for count in range(1, len(rows) + 1):
                kind = rows[count - 1].lstrip().split(" ")[0]
                if kind in KINDS:
                    waiting = kind != "plain"
                if waiting:
                    self.refused_rows(rows[:count], count + 1)
                else:
                    cut = self.read_rows(rows[:count])
                    self.assertEqual(cut[:3], chart[:3])
                    self.assertEqual(cut[5][:-1], chart[5][:len(cut[5]) - 1])

    def test_reading_keeps_nothing(self):
        text = "\n".join(HOUSE[1])
        one = read(text)
        self.refused("\n".join(OWN_NAMES[1]) + "\n", len(OWN_NAMES[1]) + 1)
        self.assertEqual(read(text), one)
        self.assertEqual(one, HOUSE[0])


class Rows(Reader):
    def test_a_row_that_can_stand_nowhere_at_each_place(self):
        for rows in (SMALL, OWN_NAMES[1]):
            for row in NOWHERE:
                for place in range(len(rows) + 1):
                    self.refused_rows([*rows[:place], row, *rows[place:]], place + 1)

    def test_a_row_that_can_stand_nowhere_in_the_place_of_each(self):
        for row in NOWHERE:
            for place in range(len(SMALL)):
                self.refused_rows([*SMALL[:place], row, *SMALL[place + 1:]], place + 1)
            self.refused(row, 1)

    def test_each_row_with_a_blank_more_or_fewer(self):
        for rows in (SMALL, HOUSE[1], DEEP[1], OWN_NAMES[1]):
            for place, row in enumerate(rows):
                others = [row + " ", " " + row, row + "  ", row.replace(" ", "")]
                others += [row[:at] + " " + row[at:] for at, sign in enumerate(row) if sign == " "]
                others += [row[:at] + row[at + 1:] for at, sign in enumerate(row) if sign == " "]
                for other in others:
                    self.refused_rows([*rows[:place], other, *rows[place + 1:]], place + 1)

    def test_each_row_with_other_letters_or_without_its_first_word(self):
        for rows in (SMALL, HOUSE[1]):
            for place, row in enumerate(rows):
                bare = row.lstrip().partition(" ")[2]
                for other in (row.upper(), row.title(), row + ".", row + "\\", bare, row + " x"):
                    self.refused_rows([*rows[:place], other, *rows[place + 1:]], place + 1)

    def test_a_line_feed_at_an_end(self):
        for _, rows in CHARTS:
            self.refused("\n".join(rows) + "\n", len(rows) + 1)
            self.refused("\n".join(rows) + "\n\n", len(rows) + 1)
            self.refused("\n" + "\n".join(rows), 1)
            self.refused("\n\n".join(rows), 2)

    def test_texts_that_stop_too_early(self):
        self.refused("", 1)
        self.refused("order inner", 2)
        self.refused("order inner\nletters 0", 3)
        for ahead in ([], ["box coins 5 0"], ["event knock"], ["box coins 5 0", "event knock", "event ring"]):
            rows = [*SMALL[:3], *ahead]
            self.refused_rows(rows, len(rows) + 1)
            for behind in (
                ["one house"], ["all house"], ["one house", "in say a"], ["all house", "in say a", "out say b"],
                ["one house", "  all hall"], ["one house", "  plain hall", "  one shed keeps near"],
            ):
                self.refused_rows(rows + behind, len(rows + behind) + 1)

    def test_a_line_feed_where_a_text_stops_too_early(self):
        for count in range(1, len(SMALL) + 1):
            self.refused("\n".join(SMALL[:count]) + "\n", count + 1)

    def test_a_row_twice_that_may_stand_once(self):
        for row in (
            "order inner", "letters 1", "turns 1", "box coins 5 0", "event knock", "one house keeps near",
            "    plain nook lamp red", "  plain cellar", "when not in stair", "when is coins 3",
        ):
            place = SMALL.index(row) + 1
            self.refused_rows([*SMALL[:place], row, *SMALL[place:]], place + 1)

    def test_a_row_twice_that_may_stand_twice(self):
        for row in (
            "in say hello", "out set coins 4", "out send knock", "do say creak", "do send ring",
            "door cellar ring back hall",
        ):
            place = SMALL.index(row) + 1
            self.read_rows([*SMALL[:place], row, *SMALL[place:]])

    def test_rows_too_early_and_too_late(self):
        # Each row with the places, counted by the rows ahead, at which it can stand, whatever becomes of those behind.
        for row, places in (
            ("order inner", (0,)),
            ("letters 1", (1,)),
            ("turns 1", (2,)),
            ("box tin 5 0", (3, 4, 5)),
            ("event bell", (3, 4, 5, 6, 7)),
            ("  plain shed", (8, 9, 10, 12, 13, 14, 15, 16)),
            ("    plain shed", (11, 12, 13, 14, 15)),
            ("in say a", (8, 9, 11, 12, 13, 14, 16)),
            ("out say a", (8, 9, 10, 11, 12, 13, 14, 15, 16)),
            ("door nook knock stay", (12, 13, 14, 15, 16, 17, 18, 19, 20, 21, 22, 23, 24)),
            ("door cellar knock stay", (16, 17, 18, 19, 20, 21, 22, 23, 24)),
            ("when not yes", (17, 20, 22)),
            ("do say a", (17, 18, 19, 20, 21, 22, 23, 24)),
        ):
            for place in range(len(SMALL) + 1):
                rows = [*SMALL[:place], row, *SMALL[place:]]
                if place in places:
                    self.not_refused_by(rows, place + 1)
                else:
                    self.refused_rows(rows, place + 1)

    def not_refused_by(self, rows, row):
        """The rows are read, or refused by one behind this one."""
        try:
            read("\n".join(rows))
        except Unread as refusal:
            self.assertGreater(refusal.row, row)

    def test_heads_in_another_order(self):
        self.refused_rows([SMALL[1], SMALL[0], *SMALL[2:]], 1)
        self.refused_rows([SMALL[0], SMALL[2], SMALL[1], *SMALL[3:]], 2)
        self.refused_rows([*SMALL[:2], *SMALL[3:]], 3)
        self.refused_rows(SMALL[1:], 1)
        self.refused_rows([SMALL[0], *SMALL[2:]], 2)

    def test_kinds_in_another_order(self):
        self.refused_rows([*SMALL[:3], *SMALL[5:7], *SMALL[3:5], *SMALL[7:]], 6)
        self.refused_rows([*SMALL[:3], "one house", *SMALL[3:]], 5)
        self.refused_rows([*SMALL[:3], "plain house", *SMALL[3:5]], 5)
        self.refused_rows([*SMALL[:7], "door house knock stay", *SMALL[7:]], 8)
        self.refused_rows([*SMALL[:7], *SMALL[8:]], 8)
        self.refused_rows([*SMALL[:8], "out say a", "in say a", *SMALL[8:]], 10)
        self.refused_rows([*SMALL, "  plain shed"], 25)
        self.refused_rows([*SMALL, "in say a"], 25)
        self.refused_rows([*SMALL, "when not yes"], 25)
        self.refused_rows([*SMALL[:16], "when not yes"], 17)
        self.refused_rows([*SMALL[:16], "do say a"], 17)
        self.refused_rows([*SMALL, "event bell"], 25)

    def test_when_yes(self):
        self.refused_rows([*SMALL[:17], "when yes", *SMALL[18:]], 18)
        self.refused_rows([*SMALL, "when yes"], 25)
        self.refused_rows([*SMALL, "door house knock stay", "when yes"], 26)
        self.assertEqual(self.read_rows([*SMALL, "door house knock stay", "when not not yes"])[6][-1][2],
                         ("not", ("not", ("yes",))))

    def test_names_that_no_row_ahead_tells(self):
        for place, rows in (
            (8, ("in set tin 0", "in send bell", "in set house 0", "in send coins", "in send hall", "in set knock 0")),
            (16, ("door shed knock stay", "door house bell stay", "door house house stay", "door knock knock stay",
                  "door house knock to shed", "door house knock to knock", "door house knock back coins")),
            (17, ("when in shed", "when is tin 0", "when in coins", "when is house 0", "when both yes in shed",
                  "do send bell", "do add tin 0", "do send house")),
        ):
            for row in rows:
                self.refused_rows([*SMALL[:place], row, *SMALL[place:]], place + 1)
        # A room is told ahead of all doors, but an event is not known by a row behind.
        self.refused_rows([*SMALL[:7], "one house", "in send bell", "event bell"], 9)


class Faults(Reader):
    def in_place(self, place, rows):
        """Each row can't stand in the place of the row of this number."""
        for row in rows:
            self.refused_rows([*SMALL[:place - 1], row, *SMALL[place:]], place)

    def test_bounds_of_the_heads(self):
        for letters in ("0", "1", "12"):
            for turns in ("1", "2", "20"):
                self.read_rows([SMALL[0], "letters " + letters, "turns " + turns, *SMALL[3:]])
        self.in_place(1, ["order", "order both", "order innerouter", "order inner outer", "order 0"])
        self.in_place(2, ["letters 13", "letters -1", "letters 100", "letters " + "9" * 300, "letters " + "9" * 5000])
        self.in_place(3, ["turns 0", "turns 21", "turns -1", "turns 100", "turns " + "9" * 300])

    def test_boxes(self):
        greatest = f"box tin {GREATEST} {GREATEST - 1}"
        for row in (greatest, "box tin 1 0", "box a 3 2", "box abcdefghijkl 2 1", "box house 1 0"):
            self.read_rows([*SMALL[:4], row, "event knock", "plain hall"])
        self.in_place(5, [
            "box coins 3 2", "box coins 5 0", "box Tin 3 2", "box abcdefghijklm 3 2", "box t1 3 2", "box tin 0 0",
            "box tin -3 0", f"box tin {GREATEST + 1} 0", "box tin 3 3", "box tin 3 4", "box tin 3 -1", "box tin 0 -1",
        ])

    def test_events(self):
        self.in_place(7, ["event knock", "event Ring", "event abcdefghijklm", "event r1", "event 1"])
        self.read_rows([*SMALL[:6], "event coins", *[row.replace("ring", "coins") for row in SMALL[7:]]])

    def test_rooms(self):
        self.in_place(8, ["  one house", "    one house", "two house", "One house", "one House", "one abcdefghijklm"])
        self.in_place(8, ["plain house keeps near", "plain house keeps deep", "all house keeps near"])
        self.in_place(8, ["one house keeps far", "one house keeps one", "all house keeps"])
        self.in_place(8, ["one house keeps near lamp Red", "one house lamp abcdefghijklm", "one house lamp r1"])
        # A name once more, rooms beside the first one, and rooms too deep.
        self.in_place(11, ["  all house", "  all h1", "all hall", "one hall", "plain hall"])
        self.in_place(11, ["    all hall", "      all hall", "    plain hall"])
        self.in_place(12, ["    plain house", "    plain hall", "      plain nook", "plain nook", "        plain nook"])
        self.in_place(16, ["  plain nook", "  plain house", "plain cellar", "  plain cellar keeps deep"])

    def test_rooms_deeper_than_a_plain_room(self):
        self.in_place(14, ["      plain stair", "      one stair", "        plain stair"])
        self.in_place(16, ["      plain cellar", "      all cellar"])
        self.refused_rows([*SMALL[:3], "plain house", "  plain hall"], 5)
        self.refused_rows([*SMALL[:3], "plain house", "in say a", "out say a", "  plain hall"], 7)

    def test_rooms_not_deeper_than_a_room_that_waits_for_kids(self):
        for kind in ("one", "all"):
            self.refused_rows([*SMALL[:7], kind + " house", "  " + kind + " hall", "  plain nook"], 10)
            self.refused_rows([*SMALL[:7], kind + " house", "  " + kind + " hall", "in say a", "  plain nook"], 11)
            self.refused_rows([*SMALL[:7], kind + " house", "  one hall", "    " + kind + " nook", "  plain shed"], 11)
            self.refused_rows([*SMALL[:7], kind + " house", "door house knock stay"], 9)
            self.refused_rows([*SMALL[:7], kind + " house", "out say a", "door house knock stay"], 10)
            self.refused_rows([*SMALL[:16], "  " + kind + " shed", *SMALL[16:]], 18)
            self.refused_rows([*SMALL[:16], "  " + kind + " shed"], 18)

    def test_depths(self):
        heads = [*SMALL[:7], *["  " * depth + "one " + NAMES[depth] for depth in range(12)]]
        for kind, deeper in (("plain", []), ("one", ["  " * 13 + "plain zz"]), ("all", ["  " * 13 + "plain zz"])):
            rows = [*heads, "  " * 12 + kind + " hall"]
            if deeper:
                self.refused_rows(rows, 21)
                self.refused_rows(rows + deeper, 21)
            else:
                self.read_rows(rows)
                self.read_rows(rows + ["  " * depth + "plain z" + LETTERS[depth] for depth in range(12, 0, -1)])

    def test_deeds_of_rooms(self):
        wrong = (
            "say A", "say abcdefghijklm", "set coins 5", "set coins -1", "set keys 3", f"set coins {GREATEST}",
            f"add coins {GREATEST + 1}", f"add coins {-GREATEST - 1}", "set tin 0", "add tin 0", "send bell",
        )
        for mark, place in (("in", 9), ("out", 10), ("in", 13), ("out", 15)):
            self.in_place(place, [f"{mark} {deed}" for deed in wrong])
            ends = (f"add coins {GREATEST}", f"add keys {-GREATEST}", "set keys 2")
            for deed in (*ends, "say abcdefghijkl", "send ring"):
                self.read_rows([*SMALL[:place - 1], f"{mark} {deed}", *SMALL[place:]])
        self.in_place(19, ["do " + deed for deed in wrong])
        self.in_place(24, ["do " + deed for deed in wrong])

    def test_doors(self):
        self.in_place(17, ["door nook knock to", "door nook knock", "door nook knock stay nook"])
        self.in_place(17, ["door nook knock over nook", "door nook knock nook", "door nook to cellar"])
        self.in_place(20, ["door cellar ring back nook", "door cellar ring back cellar", "door cellar ring back stair"])
        self.in_place(22, ["door house ring back", "door house ring to", "door house ring stay house"])
        self.in_place(22, ["door house ring none", "door house ring none house", "door house stay"])
        for goal in ("house", "hall"):
            self.read_rows([*SMALL[:16], f"door nook knock back {goal}"])
        for goal in ("house", "hall", "nook", "stair", "cellar"):
            self.read_rows([*SMALL[:16], f"door nook knock to {goal}"])

    def test_guards_of_doors(self):
        self.in_place(18, [
            "when not not not not not not yes", f"when is coins {GREATEST + 1}", f"when under keys {-GREATEST - 1}",
            "when both yes either yes both yes either yes both yes not in nook", "when not", "when yes yes",
        ])
        for guard in (
            "not not not not not yes", f"is coins {GREATEST}", f"under keys {-GREATEST}", "both yes yes", "in house",
            "both yes either yes both yes either yes not in nook",
        ):
            self.read_rows([*SMALL[:17], "when " + guard, *SMALL[18:]])

    def test_one_too_many(self):
        boxes = [f"box {name} 5 0" for name in NAMES[:7]]
        events = [f"event {name}" for name in NAMES[:9]]
        self.read_rows([*SMALL[:3], *boxes[:6], "plain hall"])
        self.refused_rows([*SMALL[:3], *boxes, "plain hall"], 10)
        self.read_rows([*SMALL[:3], *events[:8], "plain hall"])
        self.refused_rows([*SMALL[:3], *events, "plain hall"], 12)
        self.read_rows([*SMALL[:3], *boxes[:6], *events[:8], "plain hall"])
        self.refused_rows([*SMALL[:3], *boxes[:6], *events, "plain hall"], 18)

    def test_one_room_too_many(self):
        rooms = [f"  plain {name}" for name in NAMES]
        self.read_rows([*SMALL[:3], "one house", *rooms[:39]])
        self.refused_rows([*SMALL[:3], "one house", *rooms[:40]], 44)
        self.refused_rows([*SMALL[:3], "one house", *rooms[:38], "  one hall", "    plain nook"], 44)
        self.refused_rows([*SMALL[:3], "one house", *rooms[:38], "  one hall"], 44)
        self.refused_rows([*SMALL[:3], "all house", "in say a", *rooms[:40], "door house knock stay"], 45)

    def test_one_door_too_many(self):
        door = ["door house ring stay", "when not yes", "do say a"]
        self.read_rows([*SMALL[:16], *door * 60])
        self.refused_rows([*SMALL[:16], *door * 61], 197)
        self.refused_rows([*SMALL[:16], *door[:1] * 61], 77)
        self.refused_rows([*SMALL[:16], *door[:1] * 62], 77)

    def test_one_deed_too_many(self):
        for place, mark in ((8, "in"), (10, "out"), (14, "in"), (14, "out"), (17, "do"), (18, "do"), (20, "do")):
            ahead = [row for row in SMALL[:place] if not row.startswith(("in ", "out ", "do "))]
            behind = [row for row in SMALL[place:] if not row.startswith(("in ", "out ", "do "))]
            deeds = [f"{mark} say {name}" for name in NAMES[:9]]
            if place == 17:
                behind = behind[1:]
            self.read_rows([*ahead, *deeds[:8], *behind])
            self.refused_rows([*ahead, *deeds, *behind], len(ahead) + 9)
            self.refused_rows([*ahead, *deeds[:1] * 9], len(ahead) + 9)
        deeds = ["in say a"] * 8 + ["out say a"] * 8
        self.read_rows([*SMALL[:8], *deeds, *SMALL[10:]])
        self.refused_rows([*SMALL[:8], *deeds, "out say a", *SMALL[10:]], 25)

    def test_the_first_of_several_rows_that_cant_stand(self):
        for first in range(len(SMALL)):
            for second in range(first, len(SMALL)):
                rows = [row + " x" if place in (first, second) else row for place, row in enumerate(SMALL)]
                self.refused_rows(rows, first + 1)


def other_row(draw, row, words):
    """The row with a word or a blank more, fewer, or another one."""
    parts = row.split(" ")
    place = draw.below(len(parts))
    way = draw.below(6)
    if way == 0:
        return " ".join(parts[:place] + parts[place + 1:])
    if way == 1:
        return " ".join(parts[:place] + [draw.one_of(words)] + parts[place:])
    if way == 2:
        return "  " + row
    if way == 3 and row.startswith("  "):
        return row[2:]
    return " ".join(parts[:place] + [draw.one_of(words)] + parts[place + 1:])


def mutated(draw, rows, words):
    """The rows with one row or more lost, put in, moved or changed."""
    told = list(rows)
    for _ in range(1 + draw.below(2)):
        place, other = draw.below(len(told)), draw.below(len(told))
        way = draw.below(10)
        if way == 0 and len(told) > 1:
            told.pop(place)
        elif way == 1:
            told.insert(other, told[place])
        elif way == 2:
            told[place], told[other] = told[other], told[place]
        elif way == 3:
            told.insert(other, told.pop(place))
        elif way == 4:
            told = told[:place + 1]
        else:
            told[place] = other_row(draw, told[place], words)
    return told


class Drawn(Reader):
    def test_the_road_of_its_own_reads_what_is_written(self):
        for chart, rows in CHARTS:
            self.assertIsNone(expected_row("\n".join(rows)))
        for place in range(len(SMALL)):
            self.assertEqual(expected_row("\n".join([*SMALL[:place], "x", *SMALL[place:]])), place + 1)

    def test_changed_texts(self):
        read_count = changed = 0
        own = "near deep keeps lamp to back stay yes not both 0 1 2 -1 in one".split(" ")
        for seed in range(400):
            chart = drawn_chart(seed, 6, 6)
            rows = shown(renamed(chart) if seed % 2 else chart).split("\n")
            words = sorted({word for row in rows for word in row.split(" ")} | set(own))
            draw = Draw(seed)
            for _ in range(5):
                text = "\n".join(mutated(draw, rows, words))
                if text != "\n".join(rows):
                    changed += 1
                    read_count += self.check(text)
        self.assertGreater(changed, 1500)
        self.assertGreater(read_count, 200)

    def test_changed_texts_of_written_charts(self):
        for number, (_, rows) in enumerate((*CHARTS, (None, SMALL))):
            words = sorted({word for row in rows for word in row.split(" ")})
            draw = Draw(number)
            for _ in range(60):
                self.check("\n".join(mutated(draw, rows, words)))


if __name__ == "__main__":
    unittest.main()
