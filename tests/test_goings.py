import itertools
import unittest

from by_words import expected_in, expected_out
from nesthall.goings import goings_in, goings_out
from samples import FULL, GARDEN, HOUSE, chain, check_list_of_numbers, check_own_list, nestings, rooms_of


class Asking(unittest.TestCase):
    def asked_in(self, under, goals, expected, rooms=HOUSE):
        with self.subTest(f"{under} {goals}"):
            check_list_of_numbers(self, goings_in(rooms, under, goals), expected)

    def asked_out(self, under, opening, expected, rooms=HOUSE):
        with self.subTest(f"{under} {opening}"):
            check_list_of_numbers(self, goings_out(rooms, under, opening), expected)


class GoingsIn(Asking):
    def test_beneath_none(self):
        self.asked_in(None, [], [0, 1, 2, 3, 4, 6, 7])
        self.asked_in(None, [0], [0, 1, 2, 3, 4, 6, 7])
        self.asked_in(None, [11], [0, 11])
        self.asked_in(None, [15], [0, 12, 13, 15, 16])
        self.asked_in(None, [], [0], rooms_of([0], ["plain"]))
        self.asked_in(None, [0], [0], rooms_of([0], ["plain"]))

    def test_beneath_the_first_room_it_is_not_gone_into_itself(self):
        self.asked_in(0, [], [1, 2, 3, 4, 6, 7])
        self.asked_in(0, [], [], rooms_of([0], ["plain"]))

    def test_beneath_a_plain_room(self):
        for under in (2, 4, 10, 11, 16):
            for goals in ([], [under], [0], [5, 9], [under + 1] if under < 16 else []):
                self.asked_in(under, goals, [])

    def test_beneath_a_one(self):
        self.asked_in(3, [], [4])
        self.asked_in(3, [4], [4])
        self.asked_in(3, [5], [5])
        self.asked_in(6, [], [7])
        self.asked_in(6, [8], [8, 9, 10])

    def test_beneath_an_all(self):
        self.asked_in(1, [], [2, 3, 4, 6, 7])
        self.asked_in(8, [], [9, 10])
        self.asked_in(8, [10], [9, 10])
        self.asked_in(12, [], [13, 14, 16])
        self.asked_in(12, [16], [13, 14, 16])

    def test_a_goal_that_lies_deeper(self):
        self.asked_in(6, [10], [8, 9, 10])
        self.asked_in(1, [5], [2, 3, 5, 6, 7])
        self.asked_in(1, [9], [2, 3, 4, 6, 8, 9, 10])
        self.asked_in(0, [9], [1, 2, 3, 4, 6, 8, 9, 10])
        self.asked_in(0, [15], [12, 13, 15, 16])
        self.asked_in(None, [10], [0, 1, 2, 3, 4, 6, 8, 9, 10])

    def test_a_goal_that_lies_elsewhere(self):
        self.asked_in(6, [4], [7])
        self.asked_in(6, [15], [7])
        self.asked_in(13, [5], [14])
        self.asked_in(1, [15], [2, 3, 4, 6, 7])
        self.asked_in(3, [7], [4])
        self.asked_in(3, [2], [4])

    def test_a_goal_that_is_the_room_itself_or_lies_over_it(self):
        for under, expected in ((0, [1, 2, 3, 4, 6, 7]), (3, [4]), (6, [7]), (12, [13, 14, 16])):
            self.asked_in(under, [under], expected)
            self.asked_in(under, [0], expected)
        self.asked_in(6, [1, 6], [7])

    def test_a_goal_with_kids_takes_its_first_ones(self):
        self.asked_in(0, [12], [12, 13, 14, 16])
        self.asked_in(0, [6], [1, 2, 3, 4, 6, 7])

    def test_several_goals_in_one_all(self):
        for goals in itertools.permutations([5, 10]):
            self.asked_in(1, list(goals), [2, 3, 5, 6, 8, 9, 10])
            self.asked_in(None, list(goals), [0, 1, 2, 3, 5, 6, 8, 9, 10])
        for goals in itertools.permutations([2, 5, 9]):
            self.asked_in(1, list(goals), [2, 3, 5, 6, 8, 9, 10])

    def test_several_goals_in_one_one_whatever_their_order(self):
        for goals in itertools.permutations([11, 15, 5]):
            self.asked_in(0, list(goals), [1, 2, 3, 5, 6, 7])
        for goals in itertools.permutations([11, 15]):
            self.asked_in(0, list(goals), [11])
        for goals in itertools.permutations([14, 15]):
            self.asked_in(13, list(goals), [14])
        for goals in itertools.permutations([7, 9, 8]):
            self.asked_in(6, list(goals), [7])

    def test_the_same_goals_go_on_down(self):
        self.asked_in(0, [12, 15], [12, 13, 15, 16])
        self.asked_in(0, [15, 12], [12, 13, 15, 16])
        self.asked_in(0, [1, 8, 5], [1, 2, 3, 5, 6, 8, 9, 10])

    def test_a_goal_twice(self):
        self.asked_in(0, [15, 15], [12, 13, 15, 16])
        self.asked_in(1, [5, 9, 5, 9], [2, 3, 5, 6, 8, 9, 10])

    def test_each_small_nesting_with_up_to_two_goals(self):
        for size in range(1, 6):
            for rooms in nestings(size):
                for under in [None] + list(range(size)):
                    for count in range(3):
                        for goals in itertools.product(range(size), repeat=count):
                            told = goings_in(rooms, under, list(goals))
                            self.assertEqual(told, expected_in(rooms, under, list(goals)), (rooms, under, goals))

    def test_nestings_of_six_with_each_choice_of_goals(self):
        for rooms in nestings(6):
            for number in range(2 ** 6):
                goals = [room for room in range(6) if number >> room & 1]
                self.assertEqual(goings_in(rooms, None, goals), expected_in(rooms, None, goals), (rooms, goals))

    def test_forty_rooms(self):
        wide = rooms_of([0] + [1] * 39, ["one"] + ["plain"] * 39)
        self.asked_in(None, [39], [0, 39], wide)
        self.asked_in(None, [], [0, 1], wide)
        beside = rooms_of([0] + [1] * 39, ["all"] + ["plain"] * 39)
        self.asked_in(None, [7], list(range(40)), beside)
        mixed = rooms_of([0] + [1, 2, 2] * 13, ["all"] + ["one", "plain", "plain"] * 13)
        goals = [3 * k + 3 for k in range(0, 13, 2)]
        expected = [0]
        for k in range(13):
            expected += [3 * k + 1, 3 * k + 2 + (k + 1) % 2]
        self.asked_in(None, goals, expected, mixed)
        self.asked_in(0, goals[::-1], expected[1:], mixed)

    def test_deep_chains(self):
        for kind in ("one", "all"):
            for size in (13, 40, 300):
                self.asked_in(None, [], list(range(size)), chain(kind, size))
                self.asked_in(0, [size - 1], list(range(1, size)), chain(kind, size))
                self.asked_in(size - 2, [0], [size - 1], chain(kind, size))

    def test_a_deep_goal_beside_a_deep_chain(self):
        depths = list(range(13)) + list(range(1, 13))
        kinds = (["one"] * 12 + ["plain"]) + (["one"] * 11 + ["plain"])
        rooms = rooms_of(depths, kinds)
        self.asked_in(None, [24], [0] + list(range(13, 25)), rooms)
        self.asked_in(None, [24, 12], list(range(13)), rooms)

    def test_the_goals_stay_as_they_are(self):
        for goals in ([], [15, 11, 5, 5], [9, 2]):
            for under in (None, 0, 1, 2, 3):
                handed = list(goals)
                goings_in(HOUSE, under, handed)
                self.assertEqual(handed, goals)

    def test_a_told_list_is_the_askers_own(self):
        for under in (None, 0, 1, 2, 3, 8):
            for goals in ([], [8], [0]):
                with self.subTest(f"{under} {goals}"):
                    check_own_list(self, lambda: goings_in(HOUSE, under, goals))

    def test_what_is_told_is_not_the_list_of_goals(self):
        goals = [9, 10]
        told = goings_in(HOUSE, 8, goals)
        told.append(99)
        self.assertEqual(goals, [9, 10])


class GoingsOut(Asking):
    def test_beneath_none(self):
        self.asked_out(None, FULL, [10, 9, 8, 6, 5, 3, 2, 1, 0])
        self.asked_out(None, GARDEN, [16, 15, 13, 12, 0])
        self.asked_out(None, (0,), [0], rooms_of([0], ["plain"]))

    def test_beneath_the_first_room(self):
        self.asked_out(0, FULL, [10, 9, 8, 6, 5, 3, 2, 1])
        self.asked_out(0, (0, 11), [11])
        self.asked_out(0, (0,), [], rooms_of([0], ["plain"]))

    def test_beneath_open_rooms(self):
        self.asked_out(1, FULL, [10, 9, 8, 6, 5, 3, 2])
        self.asked_out(3, FULL, [5])
        self.asked_out(6, FULL, [10, 9, 8])
        self.asked_out(8, FULL, [10, 9])
        self.asked_out(12, GARDEN, [16, 15, 13])
        self.asked_out(13, GARDEN, [15])

    def test_beneath_rooms_that_are_not_open(self):
        for under in (11, 12, 13, 7, 4, 15):
            self.asked_out(under, FULL, [])
        for under in (1, 3, 6, 8, 11):
            self.asked_out(under, GARDEN, [])

    def test_beneath_a_plain_room(self):
        for under in (2, 5, 9, 10):
            self.asked_out(under, FULL, [])
        self.asked_out(16, GARDEN, [])

    def test_each_full_opening_of_small_nestings(self):
        for size in range(1, 7):
            for rooms in nestings(size):
                openings = {tuple(expected_in(rooms, None, [goal])) for goal in range(size)}
                for opening in openings:
                    for under in [None] + list(range(size)):
                        told = goings_out(rooms, under, opening)
                        self.assertEqual(told, expected_out(rooms, under, opening), (rooms, under, opening))

    def test_forty_rooms_and_deep_chains(self):
        beside = rooms_of([0] + [1] * 39, ["all"] + ["plain"] * 39)
        self.asked_out(None, tuple(range(40)), list(range(39, -1, -1)), beside)
        self.asked_out(0, tuple(range(40)), list(range(39, 0, -1)), beside)
        for size in (13, 300):
            opening = tuple(range(size))
            self.asked_out(5, opening, list(range(size - 1, 5, -1)), chain("one", size))
            self.asked_out(None, opening, list(range(size - 1, -1, -1)), chain("one", size))

    def test_a_told_list_is_the_askers_own(self):
        for under in (None, 0, 1, 2, 11):
            with self.subTest(under):
                check_own_list(self, lambda: goings_out(HOUSE, under, FULL))


if __name__ == "__main__":
    unittest.main()
