import unittest

from by_words import expected_after, expected_begun
from drawn import drawn_chart
from nesthall.charts import faults
from nesthall.runs import after, begun, said
from nesthall.stands import is_stand
from samples import HOUSE, check_own_list, check_whole, put

YES = ("yes",)
EVENTS = ("knock", "ring", "call", "hum")
BOXES = (("coins", 3, 0), ("steps", 1000, 7))
YARD = (("yard", "plain", 0, "", "", (), ()),)


def sends(*events):
    return tuple(("send", event) for event in events)


def answering(told):
    """A door of the one room for each event that is told, with these deeds."""
    return tuple((0, event, YES, deeds, "stay", None) for event, deeds in told.items())


def chart(doors, letters=3, turns=5, rooms=YARD, boxes=BOXES):
    return ("inner", letters, turns, boxes, EVENTS, rooms, tuple(doors))


def taken(record):
    return [part[1] for part in record if part[0] == "take"]


def lost(record):
    return [part[1] for part in record if part[0] == "lost"]


class Asking(unittest.TestCase):
    def same(self, asked, told, expected):
        self.assertEqual(faults(asked), [])
        self.assertEqual(told, expected)
        check_whole(self, told)
        self.assertTrue(is_stand(asked, told[0]))

    def run_of(self, asked, event, where=((0,), (0, 0), ((),))):
        """What is told of the run, once it is the same word by word."""
        told = after(asked, where, event)
        self.same(asked, told, expected_after(asked, where, event))
        return told

    def start_of(self, asked):
        """What is told of the beginning, once it is the same word by word."""
        told = begun(asked)
        self.same(asked, told, expected_begun(asked))
        return told


class Runs(Asking):
    def test_without_a_door(self):
        for event in range(4):
            told = self.run_of(chart([]), event)
            self.assertEqual(told, (((0,), (0, 0), ((),)), [("take", event)]))

    def test_without_letters(self):
        told = self.run_of(chart(answering({1: (("say", "hum"), ("add", 1, 5))})), 1)
        self.assertEqual(told, (
            ((0,), (0, 5), ((),)), [("take", 1), ("door", 0), ("through", 0), ("say", "hum"), ("put", 1, 5)],
        ))

    def test_with_one_letter(self):
        told = self.run_of(chart(answering({0: sends(2), 2: (("say", "hum"),)})), 0)
        self.assertEqual(told[1], [
            ("take", 0), ("door", 0), ("through", 0), ("send", 2),
            ("take", 2), ("door", 1), ("through", 1), ("say", "hum"),
        ])

    def test_a_letter_that_no_door_answers(self):
        told = self.run_of(chart(answering({0: sends(3)})), 0)
        self.assertEqual(told[1], [("take", 0), ("door", 0), ("through", 0), ("send", 3), ("take", 3)])

    def test_letters_are_taken_in_the_order_in_which_they_were_sent(self):
        told = self.run_of(chart(answering({0: sends(2, 1, 3)})), 0)
        self.assertEqual(taken(told[1]), [0, 2, 1, 3])

    def test_a_letter_that_sends_a_letter(self):
        told = self.run_of(chart(answering({0: sends(1), 1: sends(2), 2: sends(3)})), 0)
        self.assertEqual(taken(told[1]), [0, 1, 2, 3])
        self.assertEqual(lost(told[1]), [])

    def test_a_letter_is_sent_behind_those_that_wait(self):
        told = self.run_of(chart(answering({0: sends(1, 2), 1: sends(3, 3)}), turns=9), 0)
        self.assertEqual(taken(told[1]), [0, 1, 2, 3, 3])

    def test_boxes_and_rooms_go_from_turn_to_turn(self):
        doors = [
            (4, 0, YES, sends(1), "to", 5), (5, 1, ("under", 0, 2), (("add", 0, 1),) + sends(2), "to", 4),
            (4, 2, YES, sends(0), "to", 11), (11, 0, ("is", 0, 1), (("add", 1, 9),), "back", 1),
        ]
        asked = chart(doors, rooms=HOUSE)
        told = self.run_of(asked, 0, ((0, 1, 2, 3, 4, 6, 7), (0, 0), ((),) * 17))
        self.assertEqual(taken(told[1]), [0, 1, 2, 0])
        kept = put(put(put(((),) * 17, 1, (2, 4, 7)), 3, (4,)), 6, (7,))
        self.assertEqual(told[0], ((0, 1, 2, 3, 4, 6, 7), (1, 9), kept))

    def test_as_many_letters_as_turns_and_one_more(self):
        for turns, ran, rest in (
            (1, [0], [1, 2, 3]), (2, [0, 1], [2, 3]), (3, [0, 1, 2], [3]), (4, [0, 1, 2, 3], []), (5, [0, 1, 2, 3], []),
        ):
            with self.subTest(turns):
                told = self.run_of(chart(answering({0: sends(1, 2, 3)}), turns=turns), 0)
                self.assertEqual(taken(told[1]), ran)
                self.assertEqual(told[1][len(told[1]) - len(rest):], [("lost", event) for event in rest])
                self.assertEqual(lost(told[1]), rest)

    def test_the_rest_is_lost_in_its_order_and_behind_all(self):
        told = self.run_of(chart(answering({0: sends(3, 1, 2, 1)}), letters=12, turns=2), 0)
        self.assertEqual(told[1], [
            ("take", 0), ("door", 0), ("through", 0), ("send", 3), ("send", 1), ("send", 2), ("send", 1),
            ("take", 3), ("lost", 1), ("lost", 2), ("lost", 1),
        ])

    def test_one_turn(self):
        asked = chart(answering({0: (("send", 0), ("say", "hum"))}), turns=1)
        self.assertEqual(self.run_of(asked, 0)[1], [
            ("take", 0), ("door", 0), ("through", 0), ("send", 0), ("say", "hum"), ("lost", 0),
        ])

    def test_twenty_turns(self):
        told = self.run_of(chart(answering({0: (("send", 0), ("add", 1, 1))}), turns=20), 0)
        self.assertEqual(taken(told[1]), [0] * 20)
        self.assertEqual(told[0][1], (0, 20))
        self.assertEqual(lost(told[1]), [0])
        self.assertEqual(told[1][-1], ("lost", 0))

    def test_each_number_of_turns(self):
        for turns in range(1, 21):
            with self.subTest(turns):
                told = self.run_of(chart(answering({0: sends(0, 0)}), letters=12, turns=turns), 0)
                self.assertEqual(len(taken(told[1])), turns)

    def test_the_first_event_does_not_wait(self):
        # With a bound of one letter the first event is taken, and still one letter can wait.
        told = self.run_of(chart(answering({0: sends(1, 2), 1: sends(3, 0)}), letters=1), 0)
        self.assertEqual(taken(told[1]), [0, 1, 3])
        self.assertEqual(lost(told[1]), [2, 0])

    def test_a_letter_that_is_taken_waits_no_longer(self):
        # The turn of a letter has its place free again.
        told = self.run_of(chart(answering({0: sends(1, 1), 1: sends(2, 3)}), letters=2), 0)
        self.assertEqual(taken(told[1]), [0, 1, 1, 2, 2])
        self.assertEqual(lost(told[1]), [3, 3])

    def test_the_bound_of_no_letters(self):
        told = self.run_of(chart(answering({0: sends(1, 0), 1: (("say", "hum"),)}), letters=0, turns=20), 0)
        self.assertEqual(told[1], [("take", 0), ("door", 0), ("through", 0), ("lost", 1), ("lost", 0)])

    def test_the_bound_of_twelve_letters(self):
        asked = chart(answering({0: sends(1, 1, 1, 1, 1, 1, 1, 2), 1: sends(3, 3)}), letters=12, turns=20)
        told = self.run_of(asked, 0)
        self.assertEqual(taken(told[1]), [0, 1, 1, 1, 1, 1, 1, 1, 2] + [3] * 11)
        self.assertEqual(lost(told[1]), [3, 3, 3])

    def test_a_run_begins_with_no_letter(self):
        asked = chart(answering({0: sends(1, 2, 3)}), turns=1)
        first = self.run_of(asked, 0)
        self.assertEqual(self.run_of(asked, 1, first[0])[1], [("take", 1)])
        self.assertEqual(self.run_of(asked, 0, first[0])[1], first[1])

    def test_a_told_record_is_the_askers_own(self):
        asked = chart(answering({0: sends(1)}))
        for event in (0, 1):
            check_own_list(self, lambda: after(asked, ((0,), (0, 0), ((),)), event)[1])

    def test_drawn_charts(self):
        several = rest = 0
        for seed in range(300):
            asked = drawn_chart(seed)
            where = self.start_of(asked)[0]
            for event in [*range(len(asked[4]))] * 3:
                where, record = self.run_of(asked, event, where)
                several += len(taken(record)) > 1
                rest += record[-1][0] == "lost"
        self.assertGreater(several, 100)
        self.assertGreater(rest, 50)


class Beginnings(Asking):
    SPEAKING = tuple(room[:5] + ((("say", room[0]),), (("say", "never"),)) for room in HOUSE)

    def test_one_room(self):
        self.assertEqual(self.start_of(chart([], boxes=())), (((0,), (), ((),)), [("in", 0)]))
        self.assertEqual(self.start_of(chart([])), (((0,), (0, 7), ((),)), [("in", 0)]))

    def test_the_goings_in_without_goals(self):
        told = self.start_of(chart([], rooms=self.SPEAKING))
        self.assertEqual(told[0], ((0, 1, 2, 3, 4, 6, 7), (0, 7), ((),) * 17))
        self.assertEqual(told[1], [
            ("in", 0), ("say", "house"), ("in", 1), ("say", "hall"), ("in", 2), ("say", "nook"),
            ("in", 3), ("say", "attic"), ("in", 4), ("say", "trunk"), ("in", 6), ("say", "loft"),
            ("in", 7), ("say", "beam"),
        ])

    def test_the_boxes_start_on(self):
        rooms = (
            ("house", "one", 0, "", "", (("add", 0, 2), ("add", 1, -8)), ()),
            ("hall", "plain", 1, "", "", (("add", 0, 2), ("set", 1, 3), ("add", 1, 1)), ()),
        )
        told = self.start_of(chart([], rooms=rooms, boxes=(("coins", 3, 1), ("steps", 1000, 7))))
        self.assertEqual(told, (((0, 1), (2, 4), ((), ())), [
            ("in", 0), ("put", 0, 0), ("put", 1, 999), ("in", 1), ("put", 0, 2), ("put", 1, 3), ("put", 1, 4),
        ]))

    def with_ins(self, ins, doors=(), letters=3, turns=5):
        return self.start_of(chart(doors, letters, turns, (("yard", "plain", 0, "", "", ins, (("say", "never"),)),)))

    def test_letters_that_are_sent_at_going_in(self):
        doors = answering({1: (("say", "hum"),), 2: sends(3)})
        self.assertEqual(self.with_ins(sends(2, 1), doors)[1], [
            ("in", 0), ("send", 2), ("send", 1), ("take", 2), ("door", 1), ("through", 1), ("send", 3),
            ("take", 1), ("door", 0), ("through", 0), ("say", "hum"), ("take", 3),
        ])

    def test_no_event_is_taken_in_the_first_turn(self):
        for letters in (0, 3):
            told = self.with_ins((("say", "hum"),), answering({0: (("say", "wrong"),)}), letters)
            self.assertEqual(told[1], [("in", 0), ("say", "hum")])

    def test_going_in_is_a_turn(self):
        for turns, ran, rest in ((1, [], [1, 2, 3]), (2, [1], [2, 3]), (3, [1, 2], [3]), (4, [1, 2, 3], [])):
            with self.subTest(turns):
                told = self.with_ins(sends(1, 2, 3), turns=turns)
                self.assertEqual(taken(told[1]), ran)
                self.assertEqual(lost(told[1]), rest)

    def test_twenty_turns(self):
        told = self.with_ins(sends(0), answering({0: (("send", 0), ("add", 1, 1))}), turns=20)
        self.assertEqual(taken(told[1]), [0] * 19)
        self.assertEqual(told[0][1], (0, 26))
        self.assertEqual(told[1][-1], ("lost", 0))

    def test_letters_that_are_lost_at_going_in(self):
        told = self.with_ins(sends(1, 2, 3, 0), letters=2)
        self.assertEqual(told[1], [
            ("in", 0), ("send", 1), ("send", 2), ("lost", 3), ("lost", 0), ("take", 1), ("take", 2),
        ])
        self.assertEqual(self.with_ins(sends(1, 2), letters=0)[1], [("in", 0), ("lost", 1), ("lost", 2)])

    def test_rooms_that_are_left_in_the_beginning_are_kept(self):
        rooms = put(HOUSE, 7, ("beam", "plain", 3, "", "", sends(1), ()))
        doors = [(2, 1, YES, (), "to", 15)]
        told = self.start_of(chart(doors, rooms=rooms))
        self.assertEqual(told[0][0], (0, 12, 13, 15, 16))
        self.assertEqual(told[0][2], put(put(put(((),) * 17, 1, (2, 4, 7)), 3, (4,)), 6, (7,)))

    def test_a_told_record_is_the_askers_own(self):
        check_own_list(self, lambda: begun(chart([]))[1])
        check_own_list(self, lambda: begun(chart([], rooms=self.SPEAKING))[1])


class Words(unittest.TestCase):
    def test_none(self):
        self.assertEqual(said([]), [])
        self.assertEqual(said([
            ("in", 0), ("take", 1), ("door", 2), ("out", 0), ("through", 2), ("put", 0, 5), ("send", 1), ("lost", 1),
        ]), [])

    def test_several_in_order(self):
        record = [
            ("in", 0), ("say", "one"), ("take", 1), ("door", 0), ("out", 0), ("say", "two"), ("through", 0),
            ("say", "one"), ("put", 0, 5), ("in", 0), ("say", "say"), ("say", "out"), ("lost", 1),
        ]
        before = list(record)
        told = said(record)
        self.assertEqual(told, ["one", "two", "one", "say", "out"])
        self.assertIs(type(told), list)
        self.assertEqual(record, before)

    def test_the_words_of_a_run(self):
        doors = answering({0: (("say", "first"), ("send", 1), ("say", "second")), 1: (("say", "third"),)})
        self.assertEqual(said(after(chart(doors), ((0,), (0, 0), ((),)), 0)[1]), ["first", "second", "third"])
        self.assertEqual(said(begun(chart(doors))[1]), [])
        self.assertEqual(said(begun(chart([], rooms=Beginnings.SPEAKING))[1]),
                         ["house", "hall", "nook", "attic", "trunk", "loft", "beam"])

    def test_a_told_list_is_the_askers_own(self):
        for record in ([], [("say", "one"), ("say", "two")]):
            check_own_list(self, lambda: said(record))


if __name__ == "__main__":
    unittest.main()
