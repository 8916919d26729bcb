import itertools
import unittest

from nesthall.guards import asked, height, holds

YES = ("yes",)
NO = ("not", YES)
MOST = 10 ** 30
LONG = 123456789012345678901234567890


def truth(value):
    """A guard that holds just where the value is True."""
    return YES if value else NO


def chain(kinds, side, last):
    """A guard that begins with the kinds, each within the one ahead, on the told side, and ends with last.

    What stands on the other side says nothing: yes in a both, not yes in an either.
    """
    guard = last
    for kind in reversed(kinds):
        if kind == "not":
            guard = ("not", guard)
        else:
            other = YES if kind == "both" else NO
            guard = (kind, guard, other) if side == 1 else (kind, other, guard)
    return guard


def tower(leaf, kind, side, size):
    """A guard of the told height, the kind over and over, deep on the told side, with leaf elsewhere."""
    guard = leaf
    for _ in range(size - 1):
        if kind == "not":
            guard = ("not", guard)
        else:
            guard = (kind, guard, leaf) if side == 1 else (kind, leaf, guard)
    return guard


def tree(leaves):
    """A guard with the leaves in their order, either and both by turns, as low as can be."""
    kinds = itertools.cycle(("either", "both"))
    row = list(leaves)
    while len(row) > 1:
        kind = next(kinds)
        row = [(kind, row[k], row[k + 1]) for k in range(0, len(row), 2)]
    return row[0]


class Holding(unittest.TestCase):
    def test_yes_holds_always(self):
        for opening in ((), (0,), (3, 1, 1)):
            for boxes in ((), (0,), (5, LONG)):
                with self.subTest(f"{opening} {boxes}"):
                    self.assertIs(holds(YES, opening, boxes), True)

    def test_is_at_what_the_box_holds_and_beside_it(self):
        for held in (0, 1, 7, LONG, MOST - 1):
            for step in (-1, 0, 1):
                with self.subTest(f"{held} {step}"):
                    self.assertIs(holds(("is", 0, held + step), (), (held,)), step == 0)

    def test_under_at_what_the_box_holds_and_beside_it(self):
        for held in (0, 1, 7, LONG, MOST - 1):
            for step in (-1, 0, 1):
                with self.subTest(f"{held} {step}"):
                    self.assertIs(holds(("under", 0, held + step), (), (held,)), step == 1)

    def test_is_and_under_at_the_ends_of_the_numbers(self):
        for held in (0, 1, LONG, MOST - 1):
            with self.subTest(held):
                self.assertIs(holds(("is", 0, -MOST), (), (held,)), False)
                self.assertIs(holds(("is", 0, MOST), (), (held,)), False)
                self.assertIs(holds(("under", 0, -MOST), (), (held,)), False)
                self.assertIs(holds(("under", 0, MOST), (), (held,)), True)

    def test_long_numbers_are_told_apart_to_the_last_figure(self):
        boxes = (LONG, LONG + 1)
        self.assertIs(holds(("is", 0, LONG), (), boxes), True)
        self.assertIs(holds(("is", 1, LONG), (), boxes), False)
        self.assertIs(holds(("under", 0, LONG + 1), (), boxes), True)
        self.assertIs(holds(("under", 1, LONG + 1), (), boxes), False)

    def test_each_box_is_asked_by_its_number(self):
        boxes = (10, 11, 12, 13, 14, 15)
        for box in range(6):
            for number in range(9, 17):
                with self.subTest(f"{box} {number}"):
                    self.assertIs(holds(("is", box, number), (), boxes), number == 10 + box)
                    self.assertIs(holds(("under", box, number), (), boxes), number > 10 + box)

    def test_in_asks_whether_the_room_is_open(self):
        for opening in ((), (0,), (0, 1, 3), (3, 1, 0), (2, 2), (3, 0, 3, 0), (39, 0, 12)):
            for room in (0, 1, 2, 3, 12, 39):
                with self.subTest(f"{opening} {room}"):
                    self.assertIs(holds(("in", room), opening, ()), opening.count(room) > 0)

    def test_in_is_not_about_boxes_nor_is_about_rooms(self):
        self.assertIs(holds(("in", 1), (0,), (1, 1)), False)
        self.assertIs(holds(("is", 0, 1), (0, 1), (0, 1)), False)

    def test_not_both_either_by_all_truths(self):
        for one in (True, False):
            self.assertIs(holds(("not", truth(one)), (), ()), not one)
            for other in (True, False):
                with self.subTest(f"{one} {other}"):
                    first, second = truth(one), truth(other)
                    self.assertIs(holds(("both", first, second), (), ()), one and other)
                    self.assertIs(holds(("either", first, second), (), ()), one or other)

    def test_both_sides_see_the_opening_and_the_boxes(self):
        for first, second in itertools.product((("in", 2), ("is", 1, 4), ("under", 0, 3)), repeat=2):
            for opening in ((0, 2), (0, 1)):
                for boxes in ((2, 4), (3, 4), (2, 5)):
                    with self.subTest(f"{first} {second} {opening} {boxes}"):
                        one, other = holds(first, opening, boxes), holds(second, opening, boxes)
                        self.assertIs(holds(("both", first, second), opening, boxes), one and other)
                        self.assertIs(holds(("either", first, second), opening, boxes), one or other)
                        self.assertIs(holds(("not", first), opening, boxes), not one)


class HoldingDeep(unittest.TestCase):
    def test_each_height_on_each_side(self):
        lasts = ((("is", 0, 5), True), (("is", 0, 6), False), (("in", 4), True), (("in", 5), False))
        for size in range(1, 21):
            for side in (1, 2):
                kinds = [("not", "both", "either")[k % 3] for k in range(size - 1)]
                turned = kinds.count("not") % 2 == 1
                for last, value in lasts:
                    with self.subTest(f"{size} {side} {last}"):
                        guard = chain(kinds, side, last)
                        self.assertIs(holds(guard, (4, 0), (5,)), value != turned)

    def test_towers_of_one_kind(self):
        for size in range(1, 21):
            for side in (1, 2):
                with self.subTest(f"{size} {side}"):
                    self.assertIs(holds(tower(("in", 1), "both", side, size), (1,), ()), True)
                    self.assertIs(holds(tower(("in", 1), "both", side, size), (2,), ()), False)
                    self.assertIs(holds(tower(("in", 1), "either", side, size), (1,), ()), True)
                    self.assertIs(holds(tower(("in", 1), "either", side, size), (2,), ()), False)
                    self.assertIs(holds(tower(("in", 1), "not", side, size), (1,), ()), size % 2 == 1)
                    self.assertIs(holds(tower(("in", 1), "not", side, size), (2,), ()), size % 2 == 0)

    def test_one_guard_far_down_decides(self):
        for size in range(2, 21):
            for side in (1, 2):
                for kind in ("both", "either"):
                    for value in (True, False):
                        with self.subTest(f"{size} {side} {kind} {value}"):
                            guard = chain([kind] * (size - 1), side, ("under", 0, LONG))
                            boxes = (LONG - 1,) if value else (LONG,)
                            self.assertIs(holds(guard, (), boxes), value)

    def test_a_broad_guard(self):
        leaves = [("in", room) for room in range(64)]
        guard = tree(leaves)
        self.assertIs(holds(guard, tuple(range(64)), ()), True)
        self.assertIs(holds(guard, (), ()), False)
        # From the leaves up the pairs are joined by either, both, either, both.
        self.assertIs(holds(tree(leaves[:4]), (0, 2), ()), True)
        self.assertIs(holds(tree(leaves[:4]), (0, 1), ()), False)
        self.assertIs(holds(tree(leaves[:8]), (5, 6), ()), True)
        self.assertIs(holds(tree(leaves[:16]), (5, 6), ()), False)
        self.assertIs(holds(tree(leaves[:16]), (9, 5, 6, 11), ()), True)


class Heights(unittest.TestCase):
    def test_each_kind(self):
        for guard, told in (
            (YES, 1),
            (("is", 0, 5), 1),
            (("under", 3, -MOST), 1),
            (("in", 7), 1),
            (("not", YES), 2),
            (("both", YES, ("in", 0)), 2),
            (("either", ("is", 0, 0), YES), 2),
        ):
            with self.subTest(guard):
                self.assertEqual(height(guard), told)
                self.assertIs(type(height(guard)), int)

    def test_the_greater_side_counts(self):
        low, high = ("in", 0), ("not", ("not", YES))
        for kind in ("both", "either"):
            with self.subTest(kind):
                self.assertEqual(height((kind, low, high)), 4)
                self.assertEqual(height((kind, high, low)), 4)
                self.assertEqual(height((kind, high, high)), 4)

    def test_each_height_on_each_side(self):
        for size in range(1, 21):
            for kind in ("not", "both", "either"):
                for side in (1, 2):
                    with self.subTest(f"{size} {kind} {side}"):
                        self.assertEqual(height(tower(("is", 2, 9), kind, side, size)), size)

    def test_a_broad_guard(self):
        self.assertEqual(height(tree([YES] * 64)), 7)


class Asking(unittest.TestCase):
    def test_each_kind(self):
        for guard, told in (
            (YES, ([], [])),
            (("is", 4, 2), ([4], [])),
            (("under", 5, 3), ([5], [])),
            (("in", 9), ([], [9])),
            (("not", ("is", 1, 0)), ([1], [])),
            (("not", ("in", 1)), ([], [1])),
            (("both", ("is", 0, 3), ("in", 2)), ([0], [2])),
            (("either", ("in", 2), ("under", 1, 3)), ([1], [2])),
        ):
            with self.subTest(guard):
                self.assertEqual(asked(guard), told)

    def test_the_kinds_of_what_is_told(self):
        told = asked(("both", ("is", 1, 0), ("in", 1)))
        self.assertIs(type(told), tuple)
        self.assertEqual([type(part) for part in told], [list, list])
        self.assertEqual([type(number) for part in told for number in part], [int, int])

    def test_a_guard_that_asks_none(self):
        for guard in (YES, NO, ("both", NO, YES), tower(YES, "either", 2, 20)):
            with self.subTest(guard):
                self.assertEqual(asked(guard), ([], []))

    def test_falling_and_several_times_are_told_rising_and_once(self):
        boxes = [("is", box, 0) for box in (5, 4, 4, 2)] + [("under", box, 1) for box in (5, 3, 0, 0)]
        rooms = [("in", room) for room in (39, 12, 12, 10, 9, 2, 39, 0)]
        self.assertEqual(asked(tree(boxes)), ([0, 2, 3, 4, 5], []))
        self.assertEqual(asked(tree(rooms)), ([], [0, 2, 9, 10, 12, 39]))
        self.assertEqual(asked(tree(boxes + rooms)), ([0, 2, 3, 4, 5], [0, 2, 9, 10, 12, 39]))
        self.assertEqual(asked(tree(rooms + boxes)), ([0, 2, 3, 4, 5], [0, 2, 9, 10, 12, 39]))

    def test_the_same_number_as_a_box_and_as_a_room(self):
        self.assertEqual(asked(("both", ("in", 3), ("is", 3, 3))), ([3], [3]))

    def test_the_n_of_a_guard_is_not_asked(self):
        self.assertEqual(asked(("either", ("is", 0, 7), ("under", 1, 8))), ([0, 1], []))

    def test_numbers_that_are_of_no_box_or_room_are_told_too(self):
        guard = ("both", ("both", ("is", LONG, 0), ("under", -1, 0)), ("both", ("in", LONG), ("in", -LONG)))
        self.assertEqual(asked(guard), ([-1, LONG], [-LONG, LONG]))

    def test_what_stands_far_down(self):
        for size in range(1, 21):
            for side in (1, 2):
                for kind in ("not", "both", "either"):
                    with self.subTest(f"{size} {side} {kind}"):
                        self.assertEqual(asked(chain([kind] * (size - 1), side, ("in", 8))), ([], [8]))
                        self.assertEqual(asked(chain([kind] * (size - 1), side, ("is", 3, 8))), ([3], []))
                        self.assertEqual(asked(chain([kind] * (size - 1), side, ("under", 3, 8))), ([3], []))

    def test_a_told_list_is_the_askers_own(self):
        for guard, boxes, rooms in (
            (YES, [], []),
            (("is", 2, 0), [2], []),
            (("in", 2), [], [2]),
            (("both", ("in", 2), ("either", ("is", 1, 0), ("is", 0, 0))), [0, 1], [2]),
        ):
            with self.subTest(guard):
                told = asked(guard)
                told[0].append(99)
                self.assertEqual(told[1], rooms)
                told[1].insert(0, 98)
                self.assertEqual(asked(guard), (boxes, rooms))
                self.assertEqual(asked(("not", guard)), (boxes, rooms))


if __name__ == "__main__":
    unittest.main()
