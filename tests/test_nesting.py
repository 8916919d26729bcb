import itertools
import unittest

from nesthall.nesting import hall_over, kids, lies_in, parent
from samples import all_depths, rooms_of


def paths(depths):
    """For each room the rooms in which it lies, from the first room on."""
    told, path = [], []
    for number, depth in enumerate(depths):
        path = path[:depth]
        told.append(list(path))
        path.append(number)
    return told


CHAIN = list(range(13))
LONG_CHAIN = list(range(300))
SHAPES = [depths for size in range(1, 8) for depths in all_depths(size)] + [
    CHAIN,
    list(range(40)),
    [0] + [1] * 39,
    [0] + [1, 2] * 19,
    [0, 1, 2, 3, 4, 1, 2, 3, 1, 1, 2, 3, 4, 5, 2, 3, 4, 2, 1],
    list(range(13)) + [1] + list(range(2, 13)) + [12, 11, 6, 7, 3],
    list(range(20)) + [20, 19, 4, 5, 1, 2, 2],
]


class Parents(unittest.TestCase):
    def test_one_room_has_none(self):
        self.assertIsNone(parent(rooms_of([0]), 0))

    def test_of_each_room(self):
        for depths in SHAPES:
            rooms = rooms_of(depths)
            told = [parent(rooms, room) for room in range(len(rooms))]
            with self.subTest(depths):
                self.assertEqual(told, [(path or [None])[-1] for path in paths(depths)])

    def test_in_told_numbers(self):
        rooms = rooms_of([0, 1, 2, 3, 3, 1, 2, 2, 1])
        told = [parent(rooms, room) for room in range(9)]
        self.assertEqual(told, [None, 0, 1, 2, 2, 0, 5, 5, 0])

    def test_the_first_room_is_told_apart_from_none(self):
        told = parent(rooms_of([0, 1]), 1)
        self.assertIs(type(told), int)
        self.assertEqual(told, 0)

    def test_a_very_deep_chain(self):
        rooms = rooms_of(LONG_CHAIN + [1])
        self.assertEqual(parent(rooms, 299), 298)
        self.assertEqual(parent(rooms, 300), 0)


class Kids(unittest.TestCase):
    def test_one_room_has_none(self):
        self.assertEqual(kids(rooms_of([0]), 0), [])

    def test_of_each_room(self):
        for depths in SHAPES:
            rooms = rooms_of(depths)
            above = paths(depths)
            for room in range(len(rooms)):
                with self.subTest(f"{depths} {room}"):
                    told = kids(rooms, room)
                    self.assertEqual(told, [k for k in range(len(rooms)) if above[k][-1:] == [room]])
                    self.assertIs(type(told), list)

    def test_in_told_numbers(self):
        rooms = rooms_of([0, 1, 2, 3, 3, 1, 2, 2, 1])
        told = [kids(rooms, room) for room in range(9)]
        self.assertEqual(told, [[1, 5, 8], [2], [3, 4], [], [], [6, 7], [], [], []])

    def test_kids_are_just_those_whose_parent_it_is(self):
        for depths in SHAPES:
            rooms = rooms_of(depths)
            for room in range(len(rooms)):
                with self.subTest(f"{depths} {room}"):
                    own = [k for k in range(len(rooms)) if parent(rooms, k) == room]
                    self.assertEqual(kids(rooms, room), own)

    def test_a_told_list_is_the_askers_own(self):
        rooms = rooms_of([0, 1, 1])
        for room, own in ((0, [1, 2]), (1, [])):
            with self.subTest(room):
                kids(rooms, room).append(9)
                self.assertEqual(kids(rooms, room), own)


class LyingIn(unittest.TestCase):
    def test_no_room_lies_in_itself(self):
        for depths in SHAPES:
            rooms = rooms_of(depths)
            for room in range(len(rooms)):
                with self.subTest(f"{depths} {room}"):
                    self.assertIs(lies_in(rooms, room, room), False)

    def test_each_pair(self):
        for depths in SHAPES:
            rooms = rooms_of(depths)
            above = paths(depths)
            for one, other in itertools.product(range(len(rooms)), repeat=2):
                with self.subTest(f"{depths} {one} {other}"):
                    self.assertIs(lies_in(rooms, one, other), other in above[one])

    def test_a_very_deep_chain(self):
        rooms = rooms_of(LONG_CHAIN + [5])
        self.assertIs(lies_in(rooms, 299, 0), True)
        self.assertIs(lies_in(rooms, 0, 299), False)
        self.assertIs(lies_in(rooms, 300, 4), True)
        self.assertIs(lies_in(rooms, 300, 5), False)


class Halls(unittest.TestCase):
    def check(self, depths, kinds):
        rooms = rooms_of(depths, kinds)
        above = paths(depths)
        for one, other in itertools.product(range(len(rooms)), repeat=2):
            halls = [k for k in above[one] if k in above[other] and kinds[k] == "one"]
            told = hall_over(rooms, one, other)
            with self.subTest(f"{depths} {kinds} {one} {other}"):
                self.assertEqual(told, (halls or [None])[-1])

    def test_each_pair_of_small_nestings_of_each_kinds(self):
        for size in range(1, 6):
            for depths in all_depths(size):
                for kinds in itertools.product(("one", "all"), repeat=size):
                    self.check(depths, kinds)

    def test_each_pair_of_greater_nestings(self):
        for depths in SHAPES[-7:]:
            for kinds in (("one",), ("all",), ("one", "all"), ("all", "one"), ("one", "all", "all")):
                self.check(depths, (kinds * len(depths))[:len(depths)])

    def test_one_room_has_none(self):
        for kind in ("one", "all", "plain"):
            with self.subTest(kind):
                self.assertIsNone(hall_over(rooms_of([0], [kind]), 0, 0))

    def test_two_rooms_in_one_another(self):
        rooms = rooms_of([0, 1, 2, 3], ["one", "one", "one", "plain"])
        self.assertEqual(hall_over(rooms, 2, 3), 1)
        self.assertEqual(hall_over(rooms, 3, 2), 1)
        self.assertEqual(hall_over(rooms, 1, 3), 0)
        self.assertIsNone(hall_over(rooms, 0, 3))
        self.assertIsNone(hall_over(rooms, 3, 0))

    def test_two_rooms_beside_each_other(self):
        rooms = rooms_of([0, 1, 2, 2, 1, 2], ["one", "one", "plain", "plain", "one", "plain"])
        self.assertEqual(hall_over(rooms, 2, 3), 1)
        self.assertEqual(hall_over(rooms, 3, 2), 1)
        self.assertEqual(hall_over(rooms, 2, 5), 0)
        self.assertEqual(hall_over(rooms, 1, 4), 0)

    def test_the_same_room_twice(self):
        rooms = rooms_of([0, 1, 2, 3], ["one", "one", "all", "plain"])
        self.assertEqual([hall_over(rooms, room, room) for room in range(4)], [None, 0, 1, 1])

    def test_where_the_room_over_both_is_all_and_a_one_stands_above_it(self):
        rooms = rooms_of([0, 1, 2, 2], ["one", "all", "plain", "plain"])
        self.assertEqual(hall_over(rooms, 2, 3), 0)
        self.assertEqual(hall_over(rooms, 1, 3), 0)

    def test_where_there_is_none(self):
        rooms = rooms_of([0, 1, 2, 1, 2], ["all", "one", "plain", "one", "plain"])
        self.assertIsNone(hall_over(rooms, 2, 4))
        self.assertIsNone(hall_over(rooms, 1, 1))
        self.assertIsNone(hall_over(rooms, 0, 0))
        self.assertEqual(hall_over(rooms, 2, 2), 1)

    def test_a_very_deep_chain(self):
        kinds = ["one", "all", "one"] + ["all"] * 297
        rooms = rooms_of(LONG_CHAIN, kinds)
        self.assertEqual(hall_over(rooms, 299, 298), 2)
        self.assertEqual(hall_over(rooms, 299, 2), 0)


class WhateverElse(unittest.TestCase):
    def test_what_else_stands_in_a_room_changes_no_answer(self):
        depths, kinds = [0, 1, 2, 2, 1, 2, 3], ["one", "all", "plain", "plain", "one", "one", "plain"]
        bare = rooms_of(depths, kinds)
        deeds = (("say", "one"), ("send", 0), ("set", 0, 1))
        full = tuple(
            ("", kinds[k], depths[k], ("near", "deep", "one", "")[k % 4], "all", deeds[:k], deeds[k:])
            for k in range(len(depths))
        )
        odd = tuple((("one", "all", "Plain 1")[k % 3],) + room[1:] for k, room in enumerate(full))
        for rooms in (full, odd):
            for one in range(len(depths)):
                self.assertEqual(parent(rooms, one), parent(bare, one))
                self.assertEqual(kids(rooms, one), kids(bare, one))
                for other in range(len(depths)):
                    self.assertIs(lies_in(rooms, one, other), lies_in(bare, one, other))
                    self.assertEqual(hall_over(rooms, one, other), hall_over(bare, one, other))

    def test_the_kinds_change_no_answer_but_halls(self):
        for depths in all_depths(5):
            bare = rooms_of(depths)
            for kind in ("plain", "one", ""):
                rooms = rooms_of(depths, [kind] * 5)
                for one in range(5):
                    with self.subTest(f"{depths} {kind} {one}"):
                        self.assertEqual(parent(rooms, one), parent(bare, one))
                        self.assertEqual(kids(rooms, one), kids(bare, one))
                        for other in range(5):
                            self.assertIs(lies_in(rooms, one, other), lies_in(bare, one, other))

    def test_nothing_handed_in_is_changed(self):
        rooms = rooms_of([0, 1, 1])
        for ask in (lambda: parent(rooms, 1), lambda: kids(rooms, 0), lambda: lies_in(rooms, 1, 0)):
            ask()
        hall_over(rooms, 1, 2)
        self.assertEqual(rooms, rooms_of([0, 1, 1]))


if __name__ == "__main__":
    unittest.main()
