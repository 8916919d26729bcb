import itertools
import unittest

from by_words import expected_after, expected_begun
from drawn import drawn_chart
from nesthall.charts import faults
from nesthall.errors import BadChart, NoEvent
from nesthall.nest import Nest
from nesthall.runs import after, begun
from nesthall.stands import lamps
from samples import HOUSE, check_own_list, put

YES = ("yes",)
EVENTS = ("knock", "ring", "call")
DOORS = (
    (4, 0, YES, (("say", "creak"), ("add", 0, 1)), "to", 5),
    (7, 0, ("is", 0, 1), (("send", 1),), "to", 8),
    (2, 1, YES, (("say", "leave"),), "to", 15),
    (12, 2, YES, (("say", "home"),), "back", 1),
    (5, 0, YES, (("set", 0, 1),), "stay", None),
)
CHART = ("inner", 3, 5, (("coins", 3, 0),), EVENTS, put(HOUSE, 0, HOUSE[0][:5] + ((("say", "welcome"),), ())), DOORS)
HALL = ((0, 1, 2, 3, 4, 6, 7), (0,), ((),) * 17)
BARE = ("inner", 0, 1, (), (), (("yard", "plain", 0, "", "", (), ()),), ())


class Running(unittest.TestCase):
    def test_the_beginning(self):
        nest = Nest(CHART)
        self.assertEqual(nest.first(), [
            ("in", 0), ("say", "welcome"), ("in", 1), ("in", 2), ("in", 3), ("in", 4), ("in", 6), ("in", 7),
        ])
        self.assertEqual(nest.stand(), HALL)
        self.assertEqual(nest.lamps(), ("red", "green", "red", "blue"))

    def test_a_chart_without_events(self):
        nest = Nest(BARE)
        self.assertEqual((nest.first(), nest.stand(), nest.lamps()), ([("in", 0)], ((0,), (), ((),)), ()))

    def test_event_by_event(self):
        nest = Nest(CHART)
        self.assertEqual(nest.run(2), [("take", 2)])
        self.assertEqual(nest.stand(), HALL)
        self.assertEqual(nest.run(0), [
            ("take", 0), ("door", 0), ("out", 4), ("through", 0), ("say", "creak"), ("put", 0, 1), ("in", 5),
        ])
        self.assertEqual(nest.stand(), ((0, 1, 2, 3, 5, 6, 7), (1,), ((),) * 17))
        self.assertEqual(nest.lamps(), ("red", "green", "blue"))
        record = nest.run(0)
        self.assertEqual(record[:11], [
            ("take", 0), ("door", 4), ("through", 4), ("put", 0, 1), ("door", 1), ("out", 7), ("through", 1),
            ("send", 1), ("in", 8), ("in", 9), ("in", 10),
        ])
        self.assertEqual(record[11:14], [("take", 1), ("door", 2), ("out", 10)])
        self.assertEqual(nest.stand()[0], (0, 12, 13, 15, 16))
        self.assertEqual(nest.stand()[2][1], (2, 5, 9, 10))
        self.assertEqual(nest.lamps(), ("green",))
        self.assertIn(("say", "home"), nest.run(2))
        self.assertEqual(nest.stand()[0], (0, 1, 2, 3, 5, 6, 8, 9, 10))
        self.assertEqual(nest.lamps(), ("red", "green", "white", "white"))

    def test_the_beginning_is_told_the_same_whatever_was_run(self):
        nest = Nest(CHART)
        first = nest.first()
        for event in (0, 0, 2, 1):
            nest.run(event)
            stand = nest.stand()
            self.assertEqual(nest.first(), first)
            self.assertEqual(nest.stand(), stand)

    def test_asking_changes_nothing(self):
        nest, other = Nest(CHART), Nest(CHART)
        for event in (0, 0, 2, 0, 1):
            for _ in range(3):
                nest.first(), nest.stand(), nest.lamps()
            self.assertEqual(nest.run(event), other.run(event))
            self.assertEqual(nest.stand(), other.stand())

    def test_each_row_of_events(self):
        for row in itertools.product(range(3), repeat=5):
            nest = Nest(CHART)
            stand = begun(CHART)[0]
            for event in row:
                stand, record = after(CHART, stand, event)
                self.assertEqual(nest.run(event), record)
                self.assertEqual(nest.stand(), stand)
                self.assertEqual(nest.lamps(), lamps(CHART[5], stand[0]))

    def test_drawn_charts(self):
        for seed in range(200):
            asked = drawn_chart(seed)
            nest = Nest(asked)
            stand, record = expected_begun(asked)
            self.assertEqual((nest.stand(), nest.first()), (stand, record))
            for step in range(8 if asked[4] else 0):
                event = (seed + step * step) % len(asked[4])
                stand, record = expected_after(asked, stand, event)
                self.assertEqual(nest.run(event), record)
                self.assertEqual(nest.stand(), stand)
                self.assertEqual(nest.lamps(), tuple(asked[5][room][4] for room in stand[0] if asked[5][room][4]))

    def test_the_kinds_of_what_is_told(self):
        nest = Nest(CHART)
        for told, kind in ((nest.first(), list), (nest.run(0), list), (nest.stand(), tuple), (nest.lamps(), tuple)):
            self.assertIs(type(told), kind)

    def test_two_nests_of_one_chart(self):
        one, other = Nest(CHART), Nest(CHART)
        one.run(0)
        self.assertEqual(other.stand(), HALL)
        other.run(1)
        self.assertEqual(one.stand()[0], (0, 1, 2, 3, 5, 6, 7))
        self.assertEqual(other.stand()[0], (0, 12, 13, 15, 16))
        other.first().append(5)
        self.assertEqual(one.first(), Nest(CHART).first())

    def test_told_lists_are_the_askers_own(self):
        nest, other = Nest(CHART), Nest(CHART)
        check_own_list(self, nest.first)
        check_own_list(self, lambda: nest.run(2))
        for event in (0, 0, 2):
            record = nest.run(event)
            expected = other.run(event)
            own = list(record)
            nest.run(1)
            other.run(1)
            self.assertEqual(record, own)
            self.assertEqual(record, expected)
            record.clear()
            self.assertEqual(nest.stand(), other.stand())


class Events(unittest.TestCase):
    def refused(self, nest, event):
        with self.subTest(event):
            stand, first, lit = nest.stand(), nest.first(), nest.lamps()
            with self.assertRaises(NoEvent) as caught:
                nest.run(event)
            self.assertEqual(caught.exception.event, event)
            self.assertIs(type(caught.exception.event), int)
            self.assertEqual((nest.stand(), nest.first(), nest.lamps()), (stand, first, lit))

    def test_below_nought_and_too_great(self):
        nest, other = Nest(CHART), Nest(CHART)
        for told in (0, 0, 2):
            for event in (-1, -2, -3, -4, 3, 4, 8, 100, 10 ** 30, -10 ** 30, 10 ** 299):
                self.refused(nest, event)
            self.assertEqual(nest.run(told), other.run(told))

    def test_the_events_at_the_ends_are_run(self):
        for event in (0, 2):
            self.assertEqual(Nest(CHART).run(event)[0], ("take", event))

    def test_a_chart_without_events_refuses_each(self):
        nest = Nest(BARE)
        for event in (0, 1, -1, 7):
            self.refused(nest, event)

    def test_eight_events(self):
        nest = Nest(BARE[:4] + (tuple("abcdefgh"),) + BARE[5:])
        for event in range(8):
            self.assertEqual(nest.run(event), [("take", event)])
        for event in (8, 9, -1, -8):
            self.refused(nest, event)


class Faults(unittest.TestCase):
    def refused(self, asked, expected):
        with self.subTest(expected):
            with self.assertRaises(BadChart) as caught:
                Nest(asked)
            self.assertEqual(caught.exception.faults, expected)
            self.assertEqual(caught.exception.faults, faults(asked))
            self.assertIs(type(caught.exception.faults), list)

    def test_each_part(self):
        for place, thing, expected in (
            (0, "middle", [("order", 0)]),
            (1, -1, [("letters", 0)]),
            (1, 13, [("letters", 0)]),
            (2, 0, [("turns", 0)]),
            (2, 21, [("turns", 0)]),
            (3, (("coins", 3, 3),), [("box", 0)]),
            (4, ("knock", "ring", "knock"), [("event", 2)]),
            (5, HOUSE[:16] + (HOUSE[0],), [("room", 16)]),
            (6, DOORS + ((0, 3, YES, (), "stay", None),), [("door", 5)]),
            (6, DOORS * 13, [("doors", 0)]),
        ):
            self.refused(put(CHART, place, thing), expected)

    def test_all_of_them_are_told_in_their_order(self):
        room = ("Yard", "plain", 1, "near", "", (("say", ""),), ())
        asked = ("", 99, -5, (("", 0, 0),) * 7, ("",) * 9, (room,), ((5, 5, YES, (), "to", 9),) * 61)
        self.refused(asked, [("order", 0), ("letters", 0), ("turns", 0), ("boxes", 0)]
                     + [("box", k) for k in range(7)] + [("events", 0)] + [("event", k) for k in range(9)]
                     + [("room", 0), ("doors", 0)] + [("door", k) for k in range(61)])

    def test_no_rooms(self):
        self.refused(BARE[:5] + ((), ()), [("rooms", 0)])

    def test_the_list_that_is_borne_is_the_askers_own(self):
        asked = put(put(CHART, 0, ""), 1, -1)

        def borne():
            with self.assertRaises(BadChart) as caught:
                Nest(asked)
            return caught.exception.faults

        check_own_list(self, borne)
        self.assertEqual(faults(asked), [("order", 0), ("letters", 0)])


if __name__ == "__main__":
    unittest.main()
