import itertools
import unittest

from by_words import expected_answer, expected_chosen
from nesthall.doors import answer, chosen, goals_of
from samples import FULL, HOUSE, NOTHING, OPENINGS, check_list_of_numbers, check_own_list

YES = ("yes",)
NO = ("not", YES)
BOXES = (("coins", 5, 0), ("steps", 9, 7))
STAND = (FULL, (4, 7), NOTHING)


def door(room, event=0, guard=YES, deeds=(), way="stay", goal=None):
    return (room, event, guard, deeds, way, goal)


def chart(doors, order="inner", rooms=HOUSE):
    return (order, 3, 5, BOXES, ("knock", "ring", "call"), rooms, tuple(doors))


def stand(opening=FULL, boxes=(4, 7), kept=NOTHING):
    return (opening, boxes, kept)


class Answers(unittest.TestCase):
    def told(self, doors, room, event, expected, where=STAND, order="inner"):
        with self.subTest(f"{doors} {room} {event} {where}"):
            number = answer(chart(doors, order), where, room, event)
            self.assertEqual(number, expected)
            self.assertIs(type(number), type(expected))

    def test_an_open_room_with_one_door(self):
        for room in FULL:
            self.told([door(room)], room, 0, 0)
            self.told([door(room)], room, 0, 0, order="outer")

    def test_a_room_that_is_not_open(self):
        for room in (4, 7, 11):
            self.told([door(room)], room, 0, None)
            self.told([door(room), door(0)], room, 0, None)
        self.told([door(11)], 11, 0, 0, stand((0, 11)))
        self.told([door(1)], 1, 0, None, stand((0, 11)))

    def test_no_door(self):
        for room in range(12):
            self.told([], room, 0, None)

    def test_a_door_of_another_room(self):
        self.told([door(3), door(0), door(9)], 1, 0, None)
        self.told([door(3), door(0), door(1), door(9)], 1, 0, 2)

    def test_a_door_of_another_event(self):
        doors = [door(1, 1), door(1, 2), door(1, 0), door(1, 1)]
        self.told(doors, 1, 0, 2)
        self.told(doors, 1, 1, 0)
        self.told(doors, 1, 2, 1)
        self.told(doors[:2], 1, 0, None)

    def test_the_first_of_several_that_hold(self):
        doors = [door(5), door(1), door(1), door(1, 0, NO)]
        self.told(doors, 1, 0, 1)
        for guards in itertools.product((YES, NO), repeat=4):
            doors = [door(1, 0, guard) for guard in guards]
            self.told(doors, 1, 0, guards.index(YES) if YES in guards else None)

    def test_guards_over_boxes(self):
        doors = [door(1, 0, ("is", 0, 3)), door(1, 0, ("under", 1, 5)), door(1, 0, ("is", 1, 7))]
        for boxes, expected in (
            ((3, 7), 0), ((3, 0), 0), ((4, 4), 1), ((4, 5), None), ((4, 7), 2), ((0, 0), 1), ((0, 8), None),
        ):
            self.told(doors, 1, 0, expected, stand(boxes=boxes))

    def test_guards_over_open_rooms(self):
        doors = [door(3, 0, ("in", 4)), door(3, 0, ("in", 7)), door(3, 0, ("both", ("in", 8), ("in", 3)))]
        for opening, expected in (
            ((0, 1, 2, 3, 4, 6, 7), 0), ((0, 1, 2, 3, 4, 6, 8, 9, 10), 0), ((0, 1, 2, 3, 5, 6, 7), 1), (FULL, 2),
            ((0, 11), None),
        ):
            self.told(doors, 3, 0, expected, stand(opening))

    def test_the_way_and_the_goal_change_no_answer(self):
        for way, goal in (("to", 11), ("back", 0), ("stay", None), ("to", 1)):
            self.told([door(9, 0, NO), door(9, 0, YES, (("say", "hum"),), way, goal)], 9, 0, 1)

    def test_sixty_doors(self):
        doors = [door(k % 12, k // 12 % 3, ("is", 0, k % 5)) for k in range(60)]
        for room, event, held in itertools.product(range(12), range(3), range(5)):
            where = stand(boxes=(held, 0))
            self.told(doors, room, event, expected_answer(chart(doors), where, room, event), where)
        self.told([door(1, 0, NO)] * 59 + [door(1)], 1, 0, 59)


class Chosen(unittest.TestCase):
    def told(self, doors, inner, outer, event=0, where=STAND, rooms=HOUSE):
        """What is chosen with the order inner, and with the order outer."""
        for order, expected in (("inner", inner), ("outer", outer)):
            with self.subTest(f"{order} {doors} {where}"):
                numbers = chosen(chart(doors, order, rooms), where, event)
                check_list_of_numbers(self, numbers, expected)

    def test_none_and_one(self):
        self.told([], [], [])
        self.told([door(11)], [], [])
        self.told([door(1, 1)], [], [])
        self.told([door(1, 0, NO)], [], [])
        self.told([door(1)], [0], [0])

    def test_rooms_in_one_another_over_one_step(self):
        self.told([door(0), door(1)], [1], [0])
        self.told([door(1), door(0)], [0], [1])
        self.told([door(3), door(5)], [1], [0])

    def test_rooms_in_one_another_over_several_steps(self):
        self.told([door(0), door(9)], [1], [0])
        self.told([door(9), door(1)], [0], [1])
        self.told([door(8), door(6), door(1), door(9), door(0)], [3], [4])

    def test_rooms_beside_each_other(self):
        self.told([door(2), door(3)], [0, 1], [0, 1])
        self.told([door(3), door(2)], [1, 0], [1, 0])
        self.told([door(9), door(10), door(2), door(5)], [2, 3, 0, 1], [2, 3, 0, 1])

    def test_some_in_one_another_and_some_beside(self):
        self.told([door(10), door(6), door(3), door(2)], [3, 2, 0], [3, 2, 1])
        self.told([door(10), door(9), door(6), door(3), door(5), door(2)], [5, 4, 1, 0], [5, 3, 2])
        self.told([door(5), door(8), door(1)], [0, 1], [2])

    def test_a_room_without_an_answer_outdoes_none(self):
        self.told([door(0), door(1, 0, NO)], [0], [0])
        self.told([door(0, 0, NO), door(1)], [1], [1])
        self.told([door(0), door(9, 1)], [0], [0])
        self.told([door(0, 1), door(9)], [1], [1])
        self.told([door(3), door(4)], [0], [0])
        self.told([door(6), door(7), door(2)], [2, 0], [2, 0])
        self.told([door(0), door(11)], [0], [0])
        self.told([door(1), door(3, 0, NO), door(5)], [2], [0])

    def test_a_room_outdone_by_one_that_is_outdone_itself(self):
        self.told([door(0), door(3), door(5)], [2], [0])
        self.told([door(0), door(3, 0, NO), door(5)], [2], [0])
        self.told([door(1), door(6), door(8), door(10), door(2)], [4, 3], [0])

    def test_each_room_has_one_door_at_most(self):
        self.told([door(2), door(2), door(3, 0, NO), door(3), door(3)], [0, 3], [0, 3])

    def test_the_order_is_that_of_the_rooms(self):
        for rooms in itertools.permutations((2, 5, 9, 10)):
            expected = [rooms.index(room) for room in sorted(rooms)]
            self.told([door(room) for room in rooms], expected, expected)

    def test_each_event_by_itself(self):
        doors = [door(5, 1), door(2, 0), door(9, 1), door(1, 2), door(3, 0), door(2, 1)]
        self.told(doors, [1, 4], [1, 4], 0)
        self.told(doors, [5, 0, 2], [5, 0, 2], 1)
        self.told(doors, [3], [3], 2)

    def test_forty_rooms(self):
        rooms = (("first", "all", 0, "", "", (), ()),) + (("kid", "plain", 1, "", "", (), ()),) * 39
        where = (tuple(range(40)), (0, 0), ((),) * 40)
        doors = [door(39 - k) for k in range(40)]
        self.told(doors, list(range(38, -1, -1)), [39], 0, where, rooms)
        self.told(doors[:39], list(range(38, -1, -1)), list(range(38, -1, -1)), 0, where, rooms)

    def test_a_chain(self):
        for size in (13, 150):
            rooms = tuple(("room", "one" if k < size - 1 else "plain", k, "", "", (), ()) for k in range(size))
            where = (tuple(range(size)), (0, 0), ((),) * size)
            self.told([door(k) for k in range(size)], [size - 1], [0], 0, where, rooms)
            self.told([door(k) for k in range(size - 2, 1, -1)], [0], [size - 4], 0, where, rooms)

    def test_each_choice_of_rooms_that_answer(self):
        for count in range(len(FULL) + 1):
            for rooms in itertools.combinations(FULL, count):
                doors = [door(room) for room in rooms[::-1]]
                for order in ("inner", "outer"):
                    asked = chart(doors, order)
                    self.assertEqual(chosen(asked, STAND, 0), expected_chosen(asked, STAND, 0), asked)

    def test_many_doors_and_stands(self):
        guards = (YES, NO, ("in", 4), ("in", 8), ("under", 0, 2), ("is", 1, 7), ("not", ("in", 11)))
        for shift in range(60):
            doors = [door((5 * k + shift) % 12, (k + shift) % 3, guards[(3 * k + shift) % 7]) for k in range(30)]
            for opening, boxes in itertools.product(OPENINGS, ((0, 0), (4, 7))):
                for order, event in itertools.product(("inner", "outer"), range(3)):
                    asked, where = chart(doors, order), stand(opening, boxes)
                    expected = expected_chosen(asked, where, event)
                    self.assertEqual(chosen(asked, where, event), expected, (asked, where, event))

    def test_a_told_list_is_the_askers_own(self):
        for doors in ([door(2), door(3)], []):
            with self.subTest(doors):
                check_own_list(self, lambda: chosen(chart(doors), STAND, 0))


class Goals(unittest.TestCase):
    DOORS = (
        door(2, 0, NO, (), "to", 11),
        door(11, 1, YES, (), "back", 1),
        door(11, 0, YES, (), "back", 3),
        door(3, 0, YES, (), "stay", None),
        door(11, 0, YES, (), "to", 1),
        door(9, 0, YES, (), "back", 0),
    )
    KEPT = ((2, 4, 9, 10), (2, 5, 7), (), (5,)) + NOTHING[4:]

    def told(self, kept, number, expected):
        with self.subTest(f"{kept} {number}"):
            check_list_of_numbers(self, goals_of(chart(self.DOORS), kept, number), expected)

    def test_to(self):
        for kept in (NOTHING, self.KEPT):
            self.told(kept, 0, [11])
            self.told(kept, 4, [1])

    def test_back_with_what_is_kept(self):
        self.told(self.KEPT, 1, [2, 5, 7])
        self.told(self.KEPT, 2, [5])
        self.told(self.KEPT, 5, [2, 4, 9, 10])
        self.told(((11,),) + self.KEPT[1:], 5, [11])

    def test_back_without_what_is_kept(self):
        for kept in (NOTHING, self.KEPT[:1] + ((), (), ()) + self.KEPT[4:]):
            self.told(kept, 1, [1])
            self.told(kept, 2, [3])
        self.told(((),) + self.KEPT[1:], 5, [0])

    def test_stay(self):
        for kept in (NOTHING, self.KEPT):
            self.told(kept, 3, [])

    def test_a_told_list_is_the_askers_own(self):
        asked = chart(self.DOORS)
        for kept in (NOTHING, self.KEPT):
            for number in range(6):
                with self.subTest(f"{kept} {number}"):
                    check_own_list(self, lambda: goals_of(asked, kept, number))


if __name__ == "__main__":
    unittest.main()
