import itertools
import unittest

from by_words import Walker, expected_hall, expected_in
from drawn import drawn_chart
from nesthall.charts import faults
from nesthall.doors import chosen
from nesthall.letters import Letters
from nesthall.passing import passed, turn
from nesthall.runs import after, begun
from nesthall.stands import is_stand
from samples import FULL, GARDEN, HALL, HOUSE, NOTHING, OPENINGS, check_whole, put

YES = ("yes",)
NO = ("not", YES)
EVENTS = ("knock", "ring", "call")
BOXES = (("coins", 5, 0), ("steps", 100, 7))
# Each room says its name at going in, and its name and `off` at going out.
SPEAKING = tuple(room[:5] + ((("say", room[0]),), (("say", room[0] + "off"),)) for room in HOUSE)
# Side by side: a room in which two plain ones lie side by side, or one by itself; and a plain room.
SIDES = (
    ("top", "all", 0, "", "", (), ()),
    ("box", "one", 1, "", "", (), ()),
    ("pair", "all", 2, "", "", (), ()),
    ("left", "plain", 3, "", "", (), ()),
    ("right", "plain", 3, "", "", (), ()),
    ("single", "plain", 2, "", "", (), ()),
    ("beside", "plain", 1, "", "", (), ()),
)
PAIR = (0, 1, 2, 3, 4, 6)


def door(room, way="stay", goal=None, deeds=(), event=0, guard=YES):
    return (room, event, guard, deeds, way, goal)


def chart(doors, rooms=SPEAKING, order="inner", boxes=BOXES):
    return (order, 3, 5, boxes, EVENTS, rooms, tuple(doors))


def with_deeds(rooms, told):
    """The rooms, those that are told with these deeds at going in and at going out, the others with none."""
    return tuple(room[:5] + told.get(number, ((), ())) for number, room in enumerate(rooms))


def compared(case, asked, where, step, number, bound, waiting):
    """What the step tells of the number, and what waits behind it, once both are the same word by word."""
    letters = Letters(bound)
    for event in waiting:
        letters.add(event)
    told = step(asked, where, number, letters)
    walker = Walker(asked, where, bound, waiting)
    if step == turn:
        walker.turn(number)
    else:
        walker.pass_door(number)
    case.assertEqual(told, walker.told())
    case.assertEqual(letters.waiting(), walker.waiting)
    check_whole(case, told)
    case.assertTrue(is_stand(asked, told[0]))
    return told, letters.waiting()


def walked(case, asked, where, number, bound=3, waiting=()):
    """What is told of the door's passing."""
    return compared(case, asked, where, passed, number, bound, waiting)


class Rooms(unittest.TestCase):
    """Which rooms are left and gone into, in which order, and what is kept."""

    def goes(self, told_door, opening, left, entered, kept=NOTHING, changes=None, rooms=SPEAKING):
        with self.subTest(f"{told_door} {opening} {kept}"):
            asked = chart([door(0), told_door[:3] + ((("say", "creak"),),) + told_door[4:]], rooms)
            self.assertEqual(faults(asked), [])
            where = (opening, (4, 9), kept)
            self.assertTrue(is_stand(asked, where))
            record = [("door", 1)]
            for room in left:
                record += [("out", room)] + list(rooms[room][6])
            record += [("through", 1), ("say", "creak")]
            for room in entered:
                record += [("in", room)] + list(rooms[room][5])
            now = tuple(sorted(set(opening) - set(left) | set(entered)))
            held = list(kept)
            for room, told in (changes or {}).items():
                held[room] = told
            told, _ = walked(self, asked, where, 1)
            self.assertEqual(told, ((now, (4, 9), tuple(held)), record))

    def test_stay(self):
        kept = put(put(NOTHING, 1, (2, 5, 7)), 13, (15,))
        for opening in OPENINGS:
            for room in opening:
                self.goes(door(room), opening, [], [], kept)

    def test_to_a_room_beside(self):
        self.goes(door(4, "to", 5), HALL, [4], [5])
        self.goes(door(5, "to", 4), FULL, [5], [4])
        self.goes(door(7, "to", 8), HALL, [7], [8, 9, 10])
        self.goes(door(8, "to", 7), FULL, [10, 9, 8], [7], changes={8: (9, 10)})
        self.goes(door(11, "to", 12), (0, 11), [11], [12, 13, 14, 16])
        self.goes(door(12, "to", 11), GARDEN, [16, 15, 13, 12], [11], changes={13: (15,)})

    def test_rooms_that_stay_open_lie_ahead_and_behind(self):
        self.goes(door(15, "to", 14), GARDEN, [15], [14])
        self.goes(door(5, "to", 4), (0, 1, 2, 3, 5, 6, 7), [5], [4])

    def test_to_a_room_deeper(self):
        self.goes(door(7, "to", 10), HALL, [7], [8, 9, 10])
        self.goes(door(11, "to", 15), (0, 11), [11], [12, 13, 15, 16])
        self.goes(door(11, "to", 9), (0, 11), [11], [1, 2, 3, 4, 6, 8, 9, 10])

    def test_to_a_room_that_lies_in_the_doors_room(self):
        whole = [7, 6, 4, 3, 2, 1]
        kept = {1: (2, 4, 7), 3: (4,), 6: (7,)}
        self.goes(door(6, "to", 10), HALL, whole, [1, 2, 3, 4, 6, 8, 9, 10], changes=kept)
        self.goes(door(1, "to", 5), HALL, whole, [1, 2, 3, 5, 6, 7], changes=kept)
        self.goes(door(13, "to", 14), GARDEN, [16, 15, 13, 12], [12, 13, 14, 16], changes={13: (15,)})

    def test_to_a_room_that_the_doors_room_lies_in(self):
        self.goes(door(9, "to", 8), FULL, [10, 9, 8], [8, 9, 10], changes={8: (9, 10)})
        kept = {1: (2, 5, 9, 10), 3: (5,), 6: (8,), 8: (9, 10)}
        self.goes(door(9, "to", 6), FULL, [10, 9, 8, 6, 5, 3, 2, 1], [1, 2, 3, 4, 6, 7], changes=kept)
        self.goes(door(9, "to", 1), FULL, [10, 9, 8, 6, 5, 3, 2, 1], [1, 2, 3, 4, 6, 7], changes=kept)

    def test_to_the_doors_own_room(self):
        self.goes(door(5, "to", 5), FULL, [5], [5])
        self.goes(door(8, "to", 8), FULL, [10, 9, 8], [8, 9, 10], changes={8: (9, 10)})
        self.goes(door(11, "to", 11), (0, 11), [11], [11])
        kept = {1: (2, 4, 7), 3: (4,), 6: (7,)}
        self.goes(door(3, "to", 3), HALL, [7, 6, 4, 3, 2, 1], [1, 2, 3, 4, 6, 7], changes=kept)

    def test_to_a_room_side_by_side(self):
        kept = {1: (2, 5, 7), 3: (5,), 6: (7,)}
        opening = (0, 1, 2, 3, 5, 6, 7)
        self.goes(door(2, "to", 8), opening, [7, 6, 5, 3, 2, 1], [1, 2, 3, 4, 6, 8, 9, 10], changes=kept)
        self.goes(door(5, "to", 2), opening, [7, 6, 5, 3, 2, 1], [1, 2, 3, 4, 6, 7], changes=kept)

    def test_the_hall_is_none_with_the_first_room(self):
        kept = {0: (15, 16), 13: (15,)}
        left = [16, 15, 13, 12, 0]
        self.goes(door(0, "to", 11), GARDEN, left, [0, 11], changes=kept)
        self.goes(door(0, "to", 15), GARDEN, left, [0, 12, 13, 15, 16], changes=kept)
        self.goes(door(15, "to", 0), GARDEN, left, [0, 1, 2, 3, 4, 6, 7], changes=kept)
        self.goes(door(0, "to", 0), GARDEN, left, [0, 1, 2, 3, 4, 6, 7], changes=kept)

    def test_the_hall_is_none_without_a_one_over_both(self):
        none = ((),) * 7
        left = [6, 4, 3, 2, 1, 0]
        self.goes(door(3, "to", 6), PAIR, left, [0, 1, 2, 3, 4, 6], none, rooms=SIDES)
        self.goes(door(6, "to", 5), PAIR, left, [0, 1, 5, 6], none, rooms=SIDES)
        self.goes(door(6, "to", 6), PAIR, left, [0, 1, 2, 3, 4, 6], none, rooms=SIDES)
        self.goes(door(3, "to", 4), PAIR, [4, 3, 2], [2, 3, 4], none, rooms=SIDES)

    def test_one_room_alone(self):
        rooms = (("house", "plain", 0, "", "", (("say", "come"),), (("say", "go"),)),)
        self.goes(door(0, "to", 0), (0,), [0], [0], ((),), rooms=rooms)
        self.goes(door(0), (0,), [], [], ((),), rooms=rooms)

    def test_back_with_nothing_kept(self):
        self.goes(door(11, "back", 1), (0, 11), [11], [1, 2, 3, 4, 6, 7])
        self.goes(door(11, "back", 6), (0, 11), [11], [1, 2, 3, 4, 6, 7])
        self.goes(door(7, "back", 8), HALL, [7], [8, 9, 10])
        self.goes(door(11, "back", 13), (0, 11), [11], [12, 13, 14, 16])

    def test_back_near(self):
        kept = put(put(NOTHING, 3, (5,)), 6, (8,))
        self.goes(door(11, "back", 3), (0, 11), [11], [1, 2, 3, 5, 6, 7], kept)
        self.goes(door(11, "back", 6), (0, 11), [11], [1, 2, 3, 4, 6, 8, 9, 10], kept)
        self.goes(door(11, "back", 3), (0, 11), [11], [1, 2, 3, 4, 6, 7], put(kept, 3, (4,)))

    def test_back_deep(self):
        for plain, entered in (
            ((2, 5, 7), [1, 2, 3, 5, 6, 7]),
            ((2, 4, 9, 10), [1, 2, 3, 4, 6, 8, 9, 10]),
            ((2, 5, 9, 10), [1, 2, 3, 5, 6, 8, 9, 10]),
        ):
            self.goes(door(11, "back", 1), (0, 11), [11], entered, put(NOTHING, 1, plain))
        self.goes(door(11, "back", 13), (0, 11), [11], [12, 13, 15, 16], put(NOTHING, 13, (15,)))

    def test_back_by_what_is_kept_of_the_goal_alone(self):
        kept = put(put(NOTHING, 3, (5,)), 6, (8,))
        self.goes(door(11, "back", 1), (0, 11), [11], [1, 2, 3, 4, 6, 7], kept)
        self.goes(door(11, "to", 3), (0, 11), [11], [1, 2, 3, 4, 6, 7], kept)
        kept = put(put(kept, 1, (2, 4, 9, 10)), 0, (11,))
        self.goes(door(11, "back", 3), (0, 11), [11], [1, 2, 3, 5, 6, 7], kept)

    def test_back_by_what_this_very_passing_keeps(self):
        left = [10, 9, 8, 6, 5, 3, 2, 1]
        kept = {1: (2, 5, 9, 10), 3: (5,), 6: (8,), 8: (9, 10)}
        for before in (NOTHING, put(put(put(NOTHING, 1, (2, 4, 7)), 3, (4,)), 6, (7,))):
            self.goes(door(2, "back", 1), FULL, left, [1, 2, 3, 5, 6, 8, 9, 10], before, kept)
            self.goes(door(5, "back", 3), FULL, left, [1, 2, 3, 5, 6, 7], before, kept)
            self.goes(door(2, "back", 6), FULL, left, [1, 2, 3, 4, 6, 8, 9, 10], before, kept)
            whole = {**kept, 0: (2, 5, 9, 10)}
            self.goes(door(9, "back", 0), FULL, left + [0], [0, 1, 2, 3, 5, 6, 8, 9, 10], before, whole)
            self.goes(door(0, "back", 3), FULL, left + [0], [0, 1, 2, 3, 5, 6, 7], before, whole)

    def test_what_is_kept_of_rooms_that_are_not_left_stays(self):
        kept = put(put(put(put(NOTHING, 0, (11,)), 1, (2, 5, 7)), 3, (5,)), 13, (15,))
        self.goes(door(7, "to", 8), HALL, [7], [8, 9, 10], kept)
        self.goes(door(4, "to", 5), HALL, [4], [5], kept)
        changes = {1: (2, 4, 7), 3: (4,), 6: (7,)}
        self.goes(door(2, "to", 11), HALL, [7, 6, 4, 3, 2, 1], [11], kept, changes)

    def test_each_door_of_the_house(self):
        # Each open room, each goal, each opening, with what the openings themselves would keep.
        kept = put(put(put(put(NOTHING, 1, (2, 5, 9, 10)), 3, (5,)), 6, (8,)), 13, (15,))
        for opening, goal in itertools.product(OPENINGS, range(17)):
            ways = ("to", "back") if HOUSE[goal][3] else ("to",)
            for room, way, before in itertools.product(opening, ways, (NOTHING, kept)):
                asked = chart([door(room, way, goal)])
                told, _ = walked(self, asked, (opening, (0, 0), before), 0)
                self.assertIn(told[0][0], OPENINGS)
                if expected_hall(HOUSE, room, goal) is None and way == "to":
                    self.assertEqual(list(told[0][0]), expected_in(HOUSE, None, [goal]))


class Deeds(unittest.TestCase):
    """What deeds do on the way, and how they are recorded."""

    ROOMS = with_deeds(HOUSE, {
        4: ((), (("add", 0, 2), ("say", "bye"))),
        5: ((("add", 0, 2), ("set", 1, 50)), ()),
        3: ((("set", 0, 0),), (("set", 0, 0),)),
    })

    def told(self, told_door, boxes, expected, record, rooms=ROOMS):
        with self.subTest(f"{told_door} {boxes}"):
            told, _ = walked(self, chart([told_door], rooms), (HALL, boxes, NOTHING), 0)
            self.assertEqual(told[0][1], expected)
            self.assertEqual(told[1], record)

    def test_boxes_go_from_deed_to_deed(self):
        deeds = (("add", 0, 2), ("add", 1, -10), ("add", 0, -1))
        self.told(door(4, "to", 5, deeds), (4, 7), (4, 50), [
            ("door", 0), ("out", 4), ("put", 0, 1), ("say", "bye"), ("through", 0), ("put", 0, 3), ("put", 1, 97),
            ("put", 0, 2), ("in", 5), ("put", 0, 4), ("put", 1, 50),
        ])

    def test_a_put_that_changes_nothing(self):
        self.told(door(4, "stay", None, (("set", 0, 3), ("add", 1, 0))), (3, 7), (3, 7), [
            ("door", 0), ("through", 0), ("put", 0, 3), ("put", 1, 7),
        ])

    def test_no_deeds(self):
        bare = with_deeds(HOUSE, {})
        self.told(door(4, "to", 5), (3, 7), (3, 7), [("door", 0), ("out", 4), ("through", 0), ("in", 5)], bare)
        self.told(door(4), (3, 7), (3, 7), [("door", 0), ("through", 0)], bare)

    def test_deeds_of_rooms_that_are_neither_left_nor_gone_into_are_not_done(self):
        self.told(door(7, "to", 8), (3, 7), (3, 7), [
            ("door", 0), ("out", 7), ("through", 0), ("in", 8), ("in", 9), ("in", 10),
        ])

    def test_eight_deeds_at_each_step(self):
        eight = tuple(("add", 1, step) for step in range(8))
        rooms = with_deeds(HOUSE, {4: ((), eight), 5: (eight, ())})
        puts = [("put", 1, number) for number in itertools.accumulate(list(range(8)) * 3, initial=0)][1:]
        self.told(door(4, "to", 5, eight), (0, 0), (0, 84), [
            ("door", 0), ("out", 4), *puts[:8], ("through", 0), *puts[8:16], ("in", 5), *puts[16:],
        ], rooms)

    def test_great_boxes(self):
        size = 10 ** 30
        asked = chart([door(0, "stay", None, (("add", 0, size), ("add", 0, -1), ("add", 0, -size)))],
                      boxes=(("coins", size, 0),))
        told, _ = walked(self, asked, (HALL, (0,), NOTHING), 0)
        self.assertEqual(told[0][1], (size - 1,))
        self.assertEqual(told[1][2:], [("put", 0, 0), ("put", 0, size - 1), ("put", 0, size - 1)])

    def test_no_boxes(self):
        asked = chart([door(4, "to", 5, (("say", "hum"),))], with_deeds(HOUSE, {}), boxes=())
        told, _ = walked(self, asked, (HALL, (), NOTHING), 0)
        self.assertEqual(told[0][1], ())


class Sent(unittest.TestCase):
    """Letters that are sent on the way."""

    ROOMS = with_deeds(HOUSE, {4: ((), (("send", 0),)), 5: ((("send", 2), ("send", 0)), ())})
    DOOR = door(4, "to", 5, (("send", 1),))

    def told(self, bound, waiting, marks, behind):
        with self.subTest(f"{bound} {waiting}"):
            told, letters = walked(self, chart([self.DOOR], self.ROOMS), (HALL, (0, 0), NOTHING), 0, bound, waiting)
            sends = [part for part in told[1] if part[0] in ("send", "lost")]
            self.assertEqual([part[0] for part in sends], marks)
            self.assertEqual([part[1] for part in sends], [0, 1, 2, 0])
            self.assertEqual(letters, behind)

    def test_all_wait(self):
        self.told(4, [], ["send"] * 4, [0, 1, 2, 0])
        self.told(12, [2, 2], ["send"] * 4, [2, 2, 0, 1, 2, 0])

    def test_some_are_lost(self):
        self.told(3, [], ["send", "send", "send", "lost"], [0, 1, 2])
        self.told(2, [], ["send", "send", "lost", "lost"], [0, 1])
        self.told(3, [2], ["send", "send", "lost", "lost"], [2, 0, 1])

    def test_all_are_lost(self):
        self.told(0, [], ["lost"] * 4, [])
        self.told(2, [1, 1], ["lost"] * 4, [1, 1])

    def test_the_letters_that_are_handed_in_bound_them_and_not_the_chart(self):
        self.assertEqual(chart([])[1], 3)
        self.told(1, [], ["send", "lost", "lost", "lost"], [0])
        self.told(9, [0] * 5, ["send"] * 4, [0] * 5 + [0, 1, 2, 0])


class Whatever(unittest.TestCase):
    def test_the_event_and_the_guard_are_not_asked(self):
        for event, guard in itertools.product(range(3), (YES, NO, ("in", 11), ("is", 0, 4), ("under", 1, -5))):
            asked = chart([door(11), door(4, "to", 5, (("say", "hum"),), event, guard)])
            told, _ = walked(self, asked, (HALL, (0, 0), NOTHING), 1)
            self.assertEqual(told[0][0], (0, 1, 2, 3, 5, 6, 7))

    def test_the_order_is_not_asked(self):
        for order in ("inner", "outer"):
            told, _ = walked(self, chart([door(4, "to", 5), door(0)], order=order), (HALL, (0, 0), NOTHING), 0)
            self.assertEqual(told[0][0], (0, 1, 2, 3, 5, 6, 7))

    def test_what_is_told_is_the_askers_own(self):
        asked = chart([door(4, "to", 5), door(4)])
        where = (HALL, (0, 0), NOTHING)
        for number in range(2):
            told = passed(asked, where, number, Letters(3))
            own = list(told[1])
            told[1].clear()
            self.assertEqual(passed(asked, where, number, Letters(3))[1], own)
            told = turn(asked, where, number, Letters(3))
            own = list(told[1])
            told[1].append(("take", 5))
            self.assertEqual(turn(asked, where, number, Letters(3))[1], own)

    def test_drawn_charts(self):
        count = 0
        for seed in range(150):
            asked = drawn_chart(seed)
            where = begun(asked)[0]
            for event in [0, *range(len(asked[4]))] if asked[4] else []:
                for number, told_door in enumerate(asked[6]):
                    if told_door[0] in where[0]:
                        walked(self, asked, where, number, 2 + seed % 4, [event] * (seed % 3))
                        count += 1
                where = after(asked, where, event)[0]
        self.assertGreater(count, 500)


class Turns(unittest.TestCase):
    def turned(self, doors, opening, passes, now, order="inner", rooms=SPEAKING, event=0, boxes=(0, 0)):
        """The doors that are passed in the turn, and the opening behind it."""
        with self.subTest(f"{order} {doors} {opening}"):
            asked = chart(doors, rooms, order)
            self.assertEqual(faults(asked), [])
            told, _ = self.told(asked, (opening, boxes, ((),) * len(rooms)), event)
            self.assertEqual([part[1] for part in told[1] if part[0] == "door"], passes)
            self.assertEqual([part[1] for part in told[1] if part[0] == "through"], passes)
            self.assertEqual(told[0][0], now)
            return told

    def told(self, asked, where, event, bound=3, waiting=()):
        return compared(self, asked, where, turn, event, bound, waiting)

    def test_no_door(self):
        for doors in ([], [door(11)], [door(1, event=1)], [door(1, guard=NO)]):
            told = self.turned(doors, HALL, [], HALL)
            self.assertEqual(told, ((HALL, (0, 0), NOTHING), [("take", 0)]))

    def test_one_door(self):
        doors = [door(11), door(4, "to", 5, (("say", "hum"), ("add", 0, 3)))]
        told = self.turned(doors, HALL, [1], (0, 1, 2, 3, 5, 6, 7))
        self.assertEqual(told[0][1], (3, 0))
        self.assertEqual(told[1], [
            ("take", 0), ("door", 1), ("out", 4), ("say", "trunkoff"), ("through", 1), ("say", "hum"), ("put", 0, 3),
            ("in", 5), ("say", "shelf"),
        ])

    def test_each_event_takes_its_own_doors(self):
        doors = [door(4, "to", 5, event=1), door(7, "to", 8, event=2), door(2)]
        self.turned(doors, HALL, [2], HALL, event=0)
        self.turned(doors, HALL, [0], (0, 1, 2, 3, 5, 6, 7), event=1)
        told = self.turned(doors, HALL, [1], (0, 1, 2, 3, 4, 6, 8, 9, 10), event=2)
        self.assertEqual(told[1][0], ("take", 2))

    def test_several_doors_in_the_order_of_their_rooms(self):
        doors = [door(7, "to", 10), door(2, "stay", None, (("say", "hum"),)), door(4, "to", 5)]
        told = self.turned(doors, HALL, [1, 2, 0], FULL)
        self.assertEqual(told[1], [
            ("take", 0), ("door", 1), ("through", 1), ("say", "hum"),
            ("door", 2), ("out", 4), ("say", "trunkoff"), ("through", 2), ("in", 5), ("say", "shelf"),
            ("door", 0), ("out", 7), ("say", "beamoff"), ("through", 0), ("in", 8), ("say", "nest"), ("in", 9),
            ("say", "egg"), ("in", 10), ("say", "twig"),
        ])

    def test_each_door_in_what_the_one_ahead_left(self):
        deeds = (("add", 1, 30),)
        doors = [door(2, deeds=deeds), door(4, "to", 5, deeds), door(7, deeds=deeds)]
        told = self.turned(doors, HALL, [0, 1, 2], (0, 1, 2, 3, 5, 6, 7), boxes=(0, 20))
        self.assertEqual([part[2] for part in told[1] if part[0] == "put"], [50, 80, 10])
        self.assertEqual(told[0][1], (0, 10))

    def test_what_one_door_keeps_the_next_goes_back_to(self):
        # The first door leaves a room that keeps what is open in it, and the second one goes back to that.
        rooms = (
            ("top", "all", 0, "", "", (), ()),
            ("first", "one", 1, "", "", (), ()),
            ("keeper", "one", 2, "near", "", (), ()),
            ("aa", "plain", 3, "", "", (), ()),
            ("bb", "plain", 3, "", "", (), ()),
            ("other", "plain", 2, "", "", (), ()),
            ("second", "plain", 1, "", "", (), ()),
        )
        doors = [door(2, "to", 5), door(6, "back", 2)]
        told = self.turned(doors, (0, 1, 2, 4, 6), [0, 1], (0, 1, 2, 4, 6), rooms=rooms)
        self.assertEqual(told[0][2], ((), (), (4,), (), (), (), ()))
        self.turned(doors[1:], (0, 1, 5, 6), [0], (0, 1, 2, 3, 6), rooms=rooms)

    def test_a_door_whose_room_was_left_is_passed_over(self):
        doors = [door(2, "to", 11), door(4, "to", 5), door(7, "stay", None, (("say", "hum"),))]
        told = self.turned(doors, HALL, [0], (0, 11))
        self.assertNotIn(("say", "hum"), told[1])

    def test_a_door_whose_room_was_gone_into_again_is_passed_over(self):
        deeds = (("say", "hum"), ("send", 1), ("set", 0, 4))
        doors = [door(2, "to", 2), door(4, "to", 5), door(7, "stay", None, deeds)]
        told = self.turned(doors, HALL, [0], HALL)
        self.assertEqual(told[0][1], (0, 0))
        self.assertNotIn(("say", "hum"), told[1])
        self.assertNotIn(("send", 1), told[1])

    def test_a_door_that_is_passed_over_leaves_no_room(self):
        # The second door would leave all rooms, but its room was left by the first one.
        doors = [door(3, "to", 3), door(4, "to", 6), door(6, "stay", None, (("say", "hum"),))]
        told = self.turned(doors, PAIR, [0, 2], PAIR, rooms=SIDES)
        self.assertEqual([part[1] for part in told[1] if part[0] == "out"], [4, 3, 2])
        self.assertEqual(told[1][-1], ("say", "hum"))

    def test_a_room_that_a_later_door_leaves_was_passed_from_ahead(self):
        doors = [door(3, deeds=(("say", "one"),)), door(4, deeds=(("say", "two"),)), door(6, "to", 5)]
        self.turned(doors, PAIR, [0, 1, 2], (0, 1, 5, 6), rooms=SIDES)

    def test_the_doors_room_alone_counts_and_not_its_goal(self):
        # The second door leads to a room that the first one left and went into again.
        doors = [door(3, "to", 3), door(6, "to", 3)]
        self.turned(doors, PAIR, [0, 1], PAIR, rooms=SIDES)
        doors = [door(3, "to", 5), door(6, "to", 3)]
        self.turned(doors, PAIR, [0, 1], PAIR, rooms=SIDES)

    def test_three_doors_the_middle_one_passed_over(self):
        doors = [door(3, "to", 5), door(4), door(6)]
        self.turned(doors, PAIR, [0, 2], (0, 1, 5, 6), rooms=SIDES)

    def test_chosen_by_the_boxes_ahead_of_the_turn(self):
        doors = [
            door(2, deeds=(("set", 0, 1),)), door(4, "to", 5, guard=("is", 0, 0)), door(7, "to", 8, guard=("is", 0, 1)),
        ]
        self.turned(doors, HALL, [0, 1], (0, 1, 2, 3, 5, 6, 7))
        self.turned(doors, HALL, [0, 2], (0, 1, 2, 3, 4, 6, 8, 9, 10), boxes=(1, 0))

    def test_chosen_by_the_rooms_that_are_open_ahead_of_the_turn(self):
        doors = [door(4, "to", 5), door(7, "to", 8, guard=("in", 4)), door(7, "stay", guard=("in", 5))]
        self.turned(doors, HALL, [0, 1], FULL)
        self.turned([door(4, "to", 5), door(5, "to", 4), door(7, guard=("in", 5))], HALL, [0], (0, 1, 2, 3, 5, 6, 7))

    def test_inner_and_outer(self):
        doors = [door(0, "to", 11), door(4, "to", 5), door(6, "to", 10)]
        self.turned(doors, HALL, [1, 2], (0, 1, 2, 3, 4, 6, 8, 9, 10))
        self.turned(doors, HALL, [0], (0, 11), "outer")
        self.turned(doors[1:] + [door(3)], HALL, [2, 1], (0, 1, 2, 3, 4, 6, 8, 9, 10), "outer")

    def test_letters_are_added_and_none_is_taken(self):
        doors = [door(2, deeds=(("send", 1), ("send", 0))), door(7, deeds=(("send", 2),))]
        where = (HALL, (0, 0), NOTHING)
        for bound, waiting, behind, lost in (
            (12, [], [1, 0, 2], []), (12, [0, 0], [0, 0, 1, 0, 2], []), (2, [], [1, 0], [2]), (2, [2], [2, 1], [0, 2]),
            (0, [], [], [1, 0, 2]),
        ):
            with self.subTest(f"{bound} {waiting}"):
                told, letters = self.told(chart(doors), where, 0, bound, waiting)
                self.assertEqual(letters, behind)
                self.assertEqual([part[1] for part in told[1] if part[0] == "lost"], lost)
                self.assertEqual(told[1].count(("take", 0)), 1)
        _, letters = self.told(chart([]), where, 0, 3, [2, 1])
        self.assertEqual(letters, [2, 1])

    def test_thirteen_doors_side_by_side(self):
        rooms = [("top", "all", 0, "", "", (), ())]
        for name in "abcdefghijklm":
            rooms.append((name, "one", 1, "", "", (), ()))
            rooms += [(name + "x", "plain", 2, "", "", (), ()), (name + "y", "plain", 2, "", "", (), ())]
        opening = tuple(number for number in range(40) if number % 3 != 0 or number == 0)
        doors = [door(room, "to", room + 1, (("add", 0, 1),)) for room in range(38, 1, -3)]
        now = tuple(number for number in range(40) if number % 3 != 2)
        told = self.turned(doors, opening, list(range(12, -1, -1)), now, rooms=tuple(rooms))
        self.assertEqual(told[0][1], (3, 0))

    def test_drawn_charts(self):
        several = over = 0
        for seed in range(400):
            asked = drawn_chart(seed)
            where = begun(asked)[0]
            for event in [*range(len(asked[4]))] * 2:
                told, _ = self.told(asked, where, event, 2 + seed % 4, [event] * (seed % 3))
                count = len([part for part in told[1] if part[0] == "door"])
                several += count > 1
                over += count < len(chosen(asked, where, event))
                where = told[0]
        self.assertGreater(several, 30)
        self.assertGreater(over, 30)


if __name__ == "__main__":
    unittest.main()
