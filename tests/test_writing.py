import unittest

from nesthall.charts import faults
from nesthall.guards import height
from nesthall.writing import deed_text, guard_text, shown
from samples import put
from written import CHARTS, DEED_BOXES, DEED_EVENTS, DEEDS, GUARD_BOXES, GUARD_ROOMS, GUARDS, HOUSE, YES


class Guards(unittest.TestCase):
    def test_guards(self):
        for guard, text in GUARDS:
            with self.subTest(text):
                self.assertEqual(guard_text(guard, GUARD_BOXES, GUARD_ROOMS), text)
                self.assertIs(type(guard_text(guard, GUARD_BOXES, GUARD_ROOMS)), str)

    def test_each_kind_and_each_height_is_written_of_some(self):
        self.assertEqual({guard[0] for guard, _ in GUARDS}, {"yes", "is", "under", "in", "not", "both", "either"})
        self.assertEqual({height(guard) for guard, _ in GUARDS}, {1, 2, 3, 6})

    def test_of_rooms_the_names_alone_are_looked_at(self):
        guard = ("both", ("in", 1), ("not", ("in", 0)))
        self.assertEqual(guard_text(guard, (), (("ash",), ("bee",))), "both in bee not in ash")

    def test_guards_higher_than_those_of_charts(self):
        guard, text = ("in", 2), "in in"
        for _ in range(19):
            guard, text = ("not", guard), "not " + text
            self.assertEqual(guard_text(guard, GUARD_BOXES, GUARD_ROOMS), text)


class Deeds(unittest.TestCase):
    def test_deeds(self):
        for deed, text in DEEDS:
            with self.subTest(text):
                self.assertEqual(deed_text(deed, DEED_BOXES, DEED_EVENTS), text)
                self.assertIs(type(deed_text(deed, DEED_BOXES, DEED_EVENTS)), str)

    def test_each_kind_is_written_of_some(self):
        self.assertEqual({deed[0] for deed, _ in DEEDS}, {"say", "set", "add", "send"})


class Charts(unittest.TestCase):
    def check(self, chart, rows):
        self.assertEqual(faults(chart), [])
        self.assertEqual(shown(chart).split("\n"), list(rows))
        self.assertIs(type(shown(chart)), str)

    def test_charts(self):
        for chart, rows in CHARTS:
            with self.subTest(rows[3]):
                self.check(chart, rows)

    def test_a_row_for_each_guard_but_yes(self):
        chart, rows = HOUSE
        ahead = rows[:rows.index("door hall knock to cellar") + 1]
        for guard, own in ((YES, []), (("not", ("not", YES)), ["when not not yes"]), (("in", 0), ["when in house"])):
            door = put(chart[6][0], 2, guard)
            self.check(put(chart, 6, (door,)), [*ahead, *own, "do say creak", "do add coins 7"])

    def test_as_many_deeds_as_there_may_be(self):
        words = ("ash", "bee", "cow", "dew", "elm", "fir", "gnu", "hen")
        deeds = tuple(("say", word) for word in words)
        rooms = (("yard", "plain", 0, "", "", deeds, deeds[::-1]),)
        asked = ("inner", 0, 1, (), ("ring",), rooms, ((0, 0, YES, deeds, "stay", None),))
        self.check(asked, [
            "order inner", "letters 0", "turns 1", "event ring", "plain yard", *["in say " + word for word in words],
            *["out say " + word for word in words[::-1]], "door yard ring stay", *["do say " + word for word in words],
        ])

    def test_asking_changes_nothing(self):
        for chart, rows in CHARTS:
            before = repr(chart)
            self.assertEqual(shown(chart), "\n".join(rows))
            self.assertEqual(shown(chart), "\n".join(rows))
            self.assertEqual(repr(chart), before)


if __name__ == "__main__":
    unittest.main()
