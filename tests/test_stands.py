import itertools
import unittest

from by_words import kids_of, plain_in
from nesthall.stands import is_full, is_stand, keeping, lamps
from samples import FULL, GARDEN, HALL, HOUSE, NOTHING, OPENINGS, above, chain, nestings, put, rooms_of

BOXES = (("coins", 5, 0), ("bell", 1, 0), ("steps", 10 ** 30, 7))
CHART = ("inner", 3, 5, BOXES, ("knock",), HOUSE, ())
HELD = (4, 0, 9)


def expected_full(rooms, opening):
    """Whether the opening is full, word by word as it is told."""
    if list(opening) != sorted(set(opening)) or 0 not in opening:
        return False
    for room in opening:
        own = kids_of(rooms, room)
        count = len([kid for kid in own if kid in opening])
        if room != 0 and above(rooms, room)[0] not in opening:
            return False
        if rooms[room][1] == "one" and count != 1 or rooms[room][1] == "all" and count != len(own):
            return False
    return True


def full_openings(rooms):
    """Each full opening, out of all choices of rooms."""
    choices = itertools.product((False, True), repeat=len(rooms))
    openings = [tuple(room for room, there in enumerate(choice) if there) for choice in choices]
    return [opening for opening in openings if expected_full(rooms, opening)]


class Openings(unittest.TestCase):
    def full(self, opening, expected, rooms=HOUSE):
        with self.subTest(opening):
            self.assertIs(is_full(rooms, opening), expected)

    def spoil(self, opening, rooms):
        """Each opening that is the full one but for one change, is not full."""
        for place in range(len(opening)):
            self.full(opening[:place] + opening[place + 1:], False, rooms)
            for room in opening:
                self.full(opening[:place] + (room,) + opening[place:], False, rooms)
        for one, other in itertools.combinations(range(len(opening)), 2):
            self.full(put(put(opening, one, opening[other]), other, opening[one]), False, rooms)
        for room in set(range(len(rooms))) - set(opening):
            self.full(tuple(sorted(opening + (room,))), False, rooms)
            self.full(opening + (room,), False, rooms)

    def test_full_ones(self):
        for opening in OPENINGS:
            self.full(opening, True)

    def test_full_ones_with_one_change(self):
        for opening in OPENINGS:
            self.spoil(opening, HOUSE)

    def test_one_room_changed_for_another(self):
        for opening in OPENINGS:
            for place, room in itertools.product(range(len(opening)), range(17)):
                changed = put(opening, place, room)
                self.full(changed, changed in OPENINGS)
                turned = tuple(sorted(changed))
                self.full(turned, turned in OPENINGS)

    def test_one_room(self):
        rooms = rooms_of([0], ["plain"])
        self.full((0,), True, rooms)
        self.full((), False, rooms)
        self.full((0, 0), False, rooms)

    def test_chains(self):
        for kind in ("one", "all"):
            for size in (2, 13):
                opening = tuple(range(size))
                self.full(opening, True, chain(kind, size))
                self.spoil(opening, chain(kind, size))
                self.full(opening[::-1], False, chain(kind, size))
            self.full(tuple(range(200)), True, chain(kind, 200))
            self.full(tuple(range(199)), False, chain(kind, 200))

    def test_forty_rooms(self):
        beside = rooms_of([0] + [1] * 39, ["all"] + ["plain"] * 39)
        self.full(tuple(range(40)), True, beside)
        self.spoil(tuple(range(40)), beside)
        wide = rooms_of([0] + [1] * 39, ["one"] + ["plain"] * 39)
        for kid in range(1, 40):
            self.full((0, kid), True, wide)
        self.spoil((0, 39), wide)
        mixed = rooms_of([0] + [1, 2, 2] * 13, ["all"] + ["one", "plain", "plain"] * 13)
        for first in (2, 3):
            opening = (0,) + tuple(sorted(
                [3 * k + 1 for k in range(13)] + [first] + [3 * k + 3 for k in range(1, 13)]
            ))
            self.full(opening, True, mixed)
            self.spoil(opening, mixed)

    def test_one_in_all_and_all_in_one(self):
        rooms = rooms_of([0, 1, 2, 2, 1, 2, 2], ["all", "one", "plain", "plain", "one", "plain", "plain"])
        for left, right in itertools.product((2, 3), (5, 6)):
            self.full((0, 1, left, 4, right), True, rooms)
        self.full((0, 1, 2, 3, 4, 5), False, rooms)
        self.full((0, 1, 2), False, rooms)
        self.full((0, 1, 2, 4), False, rooms)
        rooms = rooms_of([0, 1, 2, 2, 1, 2, 2], ["one", "all", "plain", "plain", "all", "plain", "plain"])
        self.full((0, 1, 2, 3), True, rooms)
        self.full((0, 4, 5, 6), True, rooms)
        self.full((0, 1, 2, 3, 4, 5, 6), False, rooms)
        self.full((0, 1, 2), False, rooms)
        self.full((0, 4, 6), False, rooms)

    def test_the_empty_one_and_the_first_room_alone(self):
        for rooms in (HOUSE, chain("one", 13), chain("all", 3)):
            self.full((), False, rooms)
            self.full((0,), False, rooms)

    def test_a_kid_without_its_parent(self):
        self.full((0, 2), False)
        self.full((0, 11, 16), False)
        self.full((11,), False)
        self.full((1, 2, 3, 4, 6, 7), False)
        self.full((0, 1, 2, 4, 6, 7), False)

    def test_two_kids_of_a_one(self):
        self.full((0, 1, 2, 3, 4, 5, 6, 7), False)
        self.full((0, 1, 2, 3, 4, 6, 7, 11), False)
        self.full((0, 11, 12, 13, 14, 16), False)
        self.full(tuple(range(17)), False)

    def test_an_all_with_one_kid_missing(self):
        self.full((0, 1, 3, 4, 6, 7), False)
        self.full((0, 1, 2, 3, 5, 6, 8, 9), False)
        self.full((0, 1, 2, 3, 5, 6, 8), False)
        self.full((0, 12, 13, 14), False)

    def test_each_choice_of_rooms_of_small_nestings(self):
        for size in range(1, 7):
            choices = list(itertools.product((False, True), repeat=size))
            for rooms in nestings(size):
                for choice in choices:
                    opening = tuple(room for room, there in enumerate(choice) if there)
                    self.assertIs(is_full(rooms, opening), expected_full(rooms, opening), (rooms, opening))

    def test_each_row_of_rooms_of_small_nestings(self):
        for size in range(1, 5):
            for rooms in nestings(size):
                for count in range(size + 2):
                    for opening in itertools.product(range(size), repeat=count):
                        self.assertIs(is_full(rooms, opening), expected_full(rooms, opening), (rooms, opening))


class Keeping(unittest.TestCase):
    OLD = (
        (11,), (2, 4, 7), (), (4,), (), (), (7,), (), (9, 10), (), (), (), (), (14,), (), (), (),
    )

    def kept(self, opening, left, changes, rooms=HOUSE, old=OLD):
        """What is kept is the old, but for these changes."""
        expected = tuple(changes.get(room, before) for room, before in enumerate(old))
        with self.subTest(f"{opening} {left}"):
            told = keeping(rooms, opening, left, old)
            self.assertEqual(told, expected)
            self.assertEqual({type(told)} | {type(part) for part in told}, {tuple})
            self.assertEqual({type(room) for part in told for room in part} - {int}, set())

    def test_none_left(self):
        for old in (self.OLD, NOTHING):
            self.kept(FULL, [], {}, old=old)

    def test_a_room_that_keeps_near(self):
        for old in (self.OLD, NOTHING):
            self.kept(FULL, [3], {3: (5,)}, old=old)
            self.kept(FULL, [6], {6: (8,)}, old=old)
            self.kept(HALL, [6], {6: (7,)}, old=old)

    def test_a_room_that_keeps_deep(self):
        for old in (self.OLD, NOTHING):
            self.kept(FULL, [0], {0: (2, 5, 9, 10)}, old=old)
            self.kept(FULL, [1], {1: (2, 5, 9, 10)}, old=old)
            self.kept(FULL, [8], {8: (9, 10)}, old=old)
            self.kept(HALL, [1], {1: (2, 4, 7)}, old=old)
            self.kept(GARDEN, [13], {13: (15,)}, old=old)
            self.kept(GARDEN, [0], {0: (15, 16)}, old=old)

    def test_rooms_that_keep_nothing(self):
        for old in (self.OLD, NOTHING):
            self.kept(FULL, [2, 5, 9, 10], {}, old=old)
            self.kept(GARDEN, [12, 15, 16], {}, old=old)

    def test_a_room_whose_kids_are_not_left_and_one_with_them(self):
        self.kept(FULL, [3], {3: (5,)})
        self.kept(FULL, [3, 5], {3: (5,)})
        self.kept(FULL, [5], {})
        self.kept(FULL, [10, 9], {})
        self.kept(FULL, [10, 9, 8], {8: (9, 10)})

    def test_all_rooms_left_in_each_order(self):
        changes = {0: (2, 5, 9, 10), 1: (2, 5, 9, 10), 3: (5,), 6: (8,), 8: (9, 10)}
        for left in (list(FULL), list(FULL[::-1]), [8, 0, 3, 2, 10, 9, 1, 6, 5]):
            self.kept(FULL, left, changes)
            self.kept(FULL, left, changes, old=NOTHING)
        for left in itertools.permutations(GARDEN):
            self.kept(GARDEN, list(left), {0: (15, 16), 13: (15,)})

    def test_what_was_kept_of_rooms_not_left_stays(self):
        self.kept(GARDEN, [16, 15, 13, 12], {13: (15,)})
        self.kept((0, 11), [11], {})
        self.kept((0, 11), [11, 0], {0: (11,)})

    def test_what_was_kept_before_is_replaced_as_a_whole(self):
        old = ((2, 5, 9, 10),) + self.OLD[1:]
        self.kept((0, 11), [0], {0: (11,)}, old=old)

    def test_near_keeps_the_kid_whatever_its_kind_and_deep_the_plain_ones_alone(self):
        for keeps, expected in (("near", (1,)), ("deep", (3, 5))):
            rooms = rooms_of(
                [0, 1, 2, 3, 2, 3], ["one", "all", "one", "plain", "one", "plain"], [keeps, "", "", "", "", ""]
            )
            self.kept((0, 1, 2, 3, 4, 5), [0], {0: expected}, rooms, ((),) * 6)

    def test_a_chain_of_each(self):
        for keeps, size in (("near", 13), ("deep", 13), ("near", 200), ("deep", 200)):
            rooms = rooms_of(range(size), ["one"] * (size - 1) + ["plain"], [keeps] * (size - 1) + [""])
            changes = {room: (room + 1,) if keeps == "near" else (size - 1,) for room in range(size - 1)}
            self.kept(tuple(range(size)), list(range(size)), changes, rooms, ((),) * size)

    def test_each_choice_of_left_rooms_of_small_nestings(self):
        for bare in nestings(5):
            choices = [{"one": ("near", "deep"), "all": ("deep",), "plain": ("",)}[room[1]] for room in bare]
            for keeps in itertools.product(*choices):
                rooms = tuple(put(room, 3, kept) for room, kept in zip(bare, keeps))
                for opening in full_openings(rooms):
                    for count in range(3):
                        for left in itertools.permutations(opening, count):
                            self.check(rooms, opening, list(left))

    def check(self, rooms, opening, left):
        old = ((4,),) * 5
        expected = list(old)
        for room in left:
            if rooms[room][3] == "near":
                expected[room] = tuple(kid for kid in kids_of(rooms, room) if kid in opening)
            if rooms[room][3] == "deep":
                expected[room] = plain_in(rooms, room, opening)
        self.assertEqual(keeping(rooms, opening, left, old), tuple(expected), (rooms, opening, left))

    def test_the_list_of_left_rooms_stays_as_it_is(self):
        left = [8, 0, 3]
        keeping(HOUSE, FULL, left, self.OLD)
        self.assertEqual(left, [8, 0, 3])


class Stands(unittest.TestCase):
    def stand(self, opening, boxes, kept, expected, chart=CHART):
        with self.subTest(f"{opening} {boxes} {kept}"):
            self.assertIs(is_stand(chart, (opening, boxes, kept)), expected)

    def keeps(self, room, goals, expected):
        self.stand(FULL, HELD, put(NOTHING, room, goals), expected)
        self.stand((0, 11), HELD, put(NOTHING, room, goals), expected)

    def test_stands_of_the_chart(self):
        for opening in OPENINGS:
            self.stand(opening, HELD, NOTHING, True)
            self.stand(opening, HELD, Keeping.OLD, True)
        bare = ("outer", 0, 1, (), (), rooms_of([0], ["plain"]), ())
        self.stand((0,), (), ((),), True, bare)

    def test_openings_that_are_not_full(self):
        for opening in ((), (0,), (0, 1), (0, 11, 11), (11, 0), (0, 11, 12), FULL[1:], FULL[:-1], (11,)):
            self.stand(opening, HELD, NOTHING, False)

    def test_too_many_and_too_few_numbers(self):
        for boxes in ((), (4,), (4, 0), (4, 0, 9, 0), (4, 0, 9, 9, 9, 9, 9)):
            self.stand(FULL, boxes, NOTHING, False)
        bare = ("inner", 0, 1, (), (), rooms_of([0], ["plain"]), ())
        self.stand((0,), (0,), ((),), False, bare)

    def test_numbers_at_their_bounds(self):
        for place, size in enumerate((5, 1, 10 ** 30)):
            for number, expected in (
                (0, True), (size - 1, True), (size, False), (size + 1, False), (-1, False), (-size, False),
                (10 ** 299, False), (-10 ** 299, False),
            ):
                self.stand(FULL, put(HELD, place, number), NOTHING, expected)

    def test_too_many_and_too_few_tuples_kept(self):
        for kept in ((), ((),), NOTHING[1:], NOTHING + ((),), NOTHING + ((0,),), Keeping.OLD[:-1]):
            self.stand(FULL, HELD, kept, False)

    def test_a_room_that_keeps_nothing(self):
        for room in (2, 4, 5, 7, 9, 10, 11, 12, 14, 15, 16):
            self.keeps(room, (), True)
            for other in range(17):
                self.keeps(room, (other,), False)
        self.keeps(12, (13, 16), False)
        self.keeps(12, (14, 16), False)

    def test_a_room_that_keeps_near(self):
        for room, own in ((3, (4, 5)), (6, (7, 8))):
            self.keeps(room, (), True)
            for other in range(17):
                self.keeps(room, (other,), other in own)
            for goals in (own, own[::-1], own[:1] * 2, (own[0], 0), (0, own[0]), own + own):
                self.keeps(room, goals, False)
        self.keeps(6, (9, 10), False)
        self.keeps(6, (8, 9, 10), False)

    def test_a_room_that_keeps_deep(self):
        for room, right in (
            (8, ((9, 10),)),
            (13, ((14,), (15,))),
            (1, ((2, 4, 7), (2, 5, 7), (2, 4, 9, 10), (2, 5, 9, 10))),
            (0, ((2, 4, 7), (2, 5, 7), (2, 4, 9, 10), (2, 5, 9, 10), (11,), (14, 16), (15, 16))),
        ):
            self.keeps(room, (), True)
            for other in range(17):
                self.keeps(room, (other,), (other,) in right)
            for goals in right:
                self.spoil(room, goals, right)

    def spoil(self, room, goals, right):
        """The right goals can be kept; these with one change only where they are right ones too."""
        self.keeps(room, goals, True)
        for turned in itertools.permutations(goals):
            self.keeps(room, turned, turned == goals)
        for place in range(len(goals)):
            without = goals[:place] + goals[place + 1:]
            self.keeps(room, without, without == ())
            for other in range(17):
                self.keeps(room, put(goals, place, other), put(goals, place, other) in right)
                self.keeps(room, goals[:place] + (other,) + goals[place:], False)
        for other in range(17):
            self.keeps(room, goals + (other,), False)

    def test_what_is_kept_need_not_be_of_the_opening(self):
        self.stand((0, 11), HELD, put(NOTHING, 0, (15, 16)), True)
        self.stand(GARDEN, HELD, put(NOTHING, 13, (14,)), True)
        self.stand(HALL, HELD, put(NOTHING, 3, (5,)), True)

    def test_rooms_with_kids_are_not_kept_deep(self):
        self.keeps(0, (1,), False)
        self.keeps(0, (12, 13, 15, 16), False)
        self.keeps(0, (0, 11), False)
        self.keeps(1, (2, 3, 6), False)
        self.keeps(8, (8, 9, 10), False)

    def test_each_tuple_of_small_nestings(self):
        for size in range(2, 6):
            for bare in nestings(size):
                for room in range(size):
                    if bare[room][1] != "plain":
                        self.check(put(bare, room, put(bare[room], 3, "deep")), room)

    def check(self, rooms, room):
        """Just what some full opening leaves can be kept deep, out of all tuples of up to four rooms."""
        openings = full_openings(rooms)
        right = {plain_in(rooms, room, opening) for opening in openings if room in opening} | {()}
        chart = ("inner", 0, 1, (), (), rooms, ())
        for count in range(min(len(rooms), 4) + 1):
            for goals in itertools.product(range(len(rooms)), repeat=count):
                stand = (openings[0], (), put(((),) * len(rooms), room, goals))
                self.assertIs(is_stand(chart, stand), goals in right, (rooms, room, goals))

    def test_what_is_kept_behind_a_leaving_is_of_the_chart(self):
        for opening in OPENINGS:
            kept = keeping(HOUSE, opening, list(opening), NOTHING)
            for other in OPENINGS:
                self.stand(other, HELD, kept, True)

    def test_one_wrong_part_is_enough(self):
        kept = put(Keeping.OLD, 16, (16,))
        self.stand(FULL, HELD, kept, False)
        self.stand(FULL, put(HELD, 2, -1), Keeping.OLD, False)
        self.stand(FULL[:-1], HELD, Keeping.OLD, False)


class Lamps(unittest.TestCase):
    def lit(self, opening, expected, rooms=HOUSE):
        with self.subTest(opening):
            told = lamps(rooms, opening)
            self.assertEqual(told, expected)
            self.assertIs(type(told), tuple)

    def test_none(self):
        self.lit((0, 11), ())
        self.lit((0,), (), rooms_of([0], ["plain"]))

    def test_some_in_the_order_of_the_rooms(self):
        self.lit((0, 1, 2, 3, 5, 6, 7), ("red", "green", "blue"))
        self.lit(GARDEN, ("green",))

    def test_the_same_word_twice(self):
        self.lit(HALL, ("red", "green", "red", "blue"))
        self.lit(FULL, ("red", "green", "white", "white"))

    def test_all(self):
        words = [chr(ord("z") - k % 26) * (k // 26 + 1) for k in range(40)]
        rooms = tuple(
            (words[k], "plain" if k else "all", min(k, 1), "", words[k], (), ()) for k in range(40)
        )
        self.lit(tuple(range(40)), tuple(words), rooms)
        dark = tuple(put(room, 4, "" if k % 2 else room[4]) for k, room in enumerate(rooms))
        self.lit(tuple(range(40)), tuple(words[::2]), dark)


if __name__ == "__main__":
    unittest.main()
