import unittest

from nesthall.deeds import changed, done
from nesthall.letters import Letters

MOST = 10 ** 30
LONG = 123456789012345678901234567890
ADDED = (0, 1, -1, 2, -2, 3, 7, -7, 100, -100, LONG, -LONG, MOST - 1, 1 - MOST, MOST, -MOST)


def rest(total, size):
    """What is left of the total when it is divided by the size, found without a sign of reckoning for it."""
    return total - size * (total // size)


class Changing(unittest.TestCase):
    def test_a_say_and_a_send_change_no_box(self):
        for boxes, sizes in (((), ()), ((0,), (1,)), ((3, 0, MOST - 1), (4, 2, MOST))):
            for deed in (("say", "hello"), ("send", 0), ("send", 7)):
                with self.subTest(f"{deed} {boxes}"):
                    self.assertEqual(changed(deed, boxes, sizes), boxes)

    def test_a_set_to_each_number_of_a_box(self):
        for size in (1, 2, 5):
            for held in range(size):
                for number in range(size):
                    with self.subTest(f"{size} {held} {number}"):
                        self.assertEqual(changed(("set", 0, number), (held,), (size,)), (number,))

    def test_a_set_at_the_ends_of_a_great_box(self):
        for held in (0, LONG, MOST - 1):
            for number in (0, 1, LONG, MOST - 2, MOST - 1):
                with self.subTest(f"{held} {number}"):
                    self.assertEqual(changed(("set", 0, number), (held,), (MOST,)), (number,))

    def test_an_add_leaves_the_rest(self):
        for size in (1, 2, 3, 7, 10, MOST - 1, MOST):
            for held in sorted({0, size // 2, size - 1}):
                for number in ADDED:
                    with self.subTest(f"{size} {held} {number}"):
                        told = changed(("add", 0, number), (held,), (size,))
                        self.assertEqual(told, (rest(held + number, size),))
                        self.assertTrue(0 <= told[0] < size)

    def test_an_add_in_told_numbers(self):
        for size, held, number, told in (
            (5, 3, 0, 3),
            (5, 3, 1, 4),
            (5, 3, 2, 0),
            (5, 3, 3, 1),
            (5, 3, -3, 0),
            (5, 3, -4, 4),
            (5, 0, -1, 4),
            (5, 4, 1, 0),
            (5, 2, 10, 2),
            (5, 2, -13, 4),
            (1, 0, 9, 0),
            (1, 0, -9, 0),
            (1, 0, MOST, 0),
            (1, 0, -MOST, 0),
            (7, 6, MOST, 0),
            (7, 6, -MOST, 5),
            (MOST, 0, MOST, 0),
            (MOST, 0, -MOST, 0),
            (MOST, 4, -MOST, 4),
            (MOST, 0, -1, MOST - 1),
            (MOST, MOST - 1, 1, 0),
            (MOST, MOST - 1, MOST - 1, MOST - 2),
            (MOST, LONG, 1, LONG + 1),
        ):
            with self.subTest(f"{size} {held} {number}"):
                self.assertEqual(changed(("add", 0, number), (held,), (size,)), (told,))

    def test_the_other_boxes_stay(self):
        sizes = (10, 11, 12, 13, 14, MOST)
        boxes = (1, 2, 3, 4, 5, LONG)
        for box in range(6):
            for deed, number in ((("set", box, 9), 9), (("add", box, -2), rest(boxes[box] - 2, sizes[box]))):
                with self.subTest(deed):
                    told = changed(deed, boxes, sizes)
                    self.assertEqual(told, tuple(number if k == box else boxes[k] for k in range(6)))

    def test_an_add_takes_the_size_of_its_own_box(self):
        sizes = (2, 3, 4, 5, 6, 7)
        for box in range(6):
            with self.subTest(box):
                self.assertEqual(changed(("add", box, sizes[box]), (1,) * 6, sizes), (1,) * 6)
                self.assertEqual(changed(("add", box, sizes[box] - 1), (1,) * 6, sizes)[box], 0)

    def test_the_answer_is_a_tuple_of_whole_numbers(self):
        for deed in (("say", "a"), ("set", 1, 0), ("set", 0, 1), ("add", 1, 1), ("add", 0, -MOST), ("send", 1)):
            with self.subTest(deed):
                told = changed(deed, (0, 1), (2, 2))
                self.assertIs(type(told), tuple)
                self.assertEqual([type(number) for number in told], [int, int])

    def test_nothing_handed_in_is_changed(self):
        deed, boxes, sizes = ("add", 1, 5), (1, 2), (3, 4)
        changed(deed, boxes, sizes)
        self.assertEqual((deed, boxes, sizes), (("add", 1, 5), (1, 2), (3, 4)))


class Doing(unittest.TestCase):
    def test_no_deed(self):
        for boxes, sizes in (((), ()), ((3, 1), (4, 4))):
            with self.subTest(boxes):
                letters = Letters(2)
                letters.add(5)
                self.assertEqual(done((), boxes, sizes, letters), (boxes, []))
                self.assertEqual(letters.waiting(), [5])

    def test_one_deed_of_each_kind(self):
        for deed, boxes, record in (
            (("say", "hello"), (1, 2), ("say", "hello")),
            (("set", 1, 3), (1, 3), ("put", 1, 3)),
            (("add", 0, -2), (3, 2), ("put", 0, 3)),
            (("send", 6), (1, 2), ("send", 6)),
        ):
            with self.subTest(deed):
                letters = Letters(1)
                self.assertEqual(done((deed,), (1, 2), (4, 4), letters), (boxes, [record]))
                self.assertEqual(letters.waiting(), [6] if deed[0] == "send" else [])

    def test_eight_deeds_in_order(self):
        deeds = (
            ("say", "one"), ("set", 0, 2), ("send", 1), ("add", 0, 2),
            ("send", 0), ("say", "two"), ("add", 1, MOST), ("send", 1),
        )
        letters = Letters(2)
        told = done(deeds, (0, 6), (3, 7), letters)
        self.assertEqual(told[0], (1, 0))
        self.assertEqual(told[1], [
            ("say", "one"), ("put", 0, 2), ("send", 1), ("put", 0, 1),
            ("send", 0), ("say", "two"), ("put", 1, 0), ("lost", 1),
        ])
        self.assertEqual(letters.waiting(), [1, 0])

    def test_deeds_build_on_those_ahead_of_them(self):
        deeds = (("add", 0, 1),) * 8
        self.assertEqual(
            done(deeds, (3,), (5,), Letters(0)),
            ((1,), [("put", 0, v) for v in (4, 0, 1, 2, 3, 4, 0, 1)]),
        )
        deeds = (("set", 0, 4), ("add", 0, 3), ("add", 1, 1), ("set", 0, 0), ("add", 0, -1))
        self.assertEqual(
            done(deeds, (2, 2), (5, 3), Letters(0)),
            ((4, 0), [("put", 0, 4), ("put", 0, 2), ("put", 1, 0), ("put", 0, 0), ("put", 0, 4)]),
        )

    def test_the_order_of_deeds_counts(self):
        one, other = ("set", 0, 1), ("add", 0, 1)
        self.assertEqual(done((one, other), (0,), (9,), Letters(0)), ((2,), [("put", 0, 1), ("put", 0, 2)]))
        self.assertEqual(done((other, one), (0,), (9,), Letters(0)), ((1,), [("put", 0, 1), ("put", 0, 1)]))

    def test_a_put_is_recorded_also_where_nothing_changes(self):
        deeds = (("set", 0, 3), ("add", 0, 0), ("add", 0, 4), ("add", 0, -4), ("set", 1, 0), ("add", 1, MOST))
        told = done(deeds, (3, 0), (4, 1), Letters(0))
        self.assertEqual(told, ((3, 0), [("put", 0, 3)] * 4 + [("put", 1, 0)] * 2))

    def test_great_numbers(self):
        deeds = (("set", 0, MOST - 1), ("add", 0, MOST), ("add", 0, 1), ("add", 0, -MOST), ("add", 0, -1))
        told = done(deeds, (LONG,), (MOST,), Letters(0))
        self.assertEqual(told, ((MOST - 1,), [("put", 0, v) for v in (MOST - 1, MOST - 1, 0, 0, MOST - 1)]))

    def test_sends_that_are_added_and_lost_in_one_row(self):
        for most in range(9):
            with self.subTest(most):
                letters = Letters(most)
                deeds = tuple(("send", k % 3) for k in range(8))
                told = done(deeds, (), (), letters)
                self.assertEqual(told, ((), [("send" if k < most else "lost", k % 3) for k in range(8)]))
                self.assertEqual(letters.waiting(), [k % 3 for k in range(most)])

    def test_sends_behind_letters_that_wait_already(self):
        letters = Letters(3)
        letters.add(4)
        letters.add(4)
        told = done((("send", 2), ("say", "x"), ("send", 2)), (), (), letters)
        self.assertEqual(told, ((), [("send", 2), ("say", "x"), ("lost", 2)]))
        self.assertEqual(letters.waiting(), [4, 4, 2])
        self.assertEqual(letters.taken(), 4)
        self.assertEqual(done((("send", 0),), (), (), letters), ((), [("send", 0)]))
        self.assertEqual(letters.waiting(), [4, 2, 0])

    def test_twelve_letters_wait_at_most(self):
        letters = Letters(12)
        first = done((("send", 1),) * 8, (), (), letters)[1]
        second = done((("send", 2),) * 8, (), (), letters)[1]
        self.assertEqual(first, [("send", 1)] * 8)
        self.assertEqual(second, [("send", 2)] * 4 + [("lost", 2)] * 4)
        self.assertEqual(letters.waiting(), [1] * 8 + [2] * 4)

    def test_the_kinds_of_what_is_told(self):
        told = done((("say", "a"), ("set", 0, 1), ("add", 0, 1), ("send", 0), ("send", 0)), (0,), (2,), Letters(1))
        self.assertIs(type(told), tuple)
        self.assertEqual([type(part) for part in told], [tuple, list])
        self.assertEqual([type(number) for number in told[0]], [int])
        self.assertEqual([type(part) for part in told[1]], [tuple] * 5)
        kinds = [[type(value) for value in part] for part in told[1]]
        self.assertEqual(kinds, [[str, str], [str, int, int], [str, int, int], [str, int], [str, int]])

    def test_a_told_record_is_the_askers_own(self):
        for deeds, record in (((), []), ((("say", "a"), ("set", 0, 1)), [("say", "a"), ("put", 0, 1)])):
            with self.subTest(deeds):
                letters = Letters(1)
                told = done(deeds, (0,), (2,), letters)[1]
                told.append(("say", "b"))
                self.assertEqual(done(deeds, (0,), (2,), letters)[1], record)

    def test_nothing_handed_in_is_changed(self):
        deeds, boxes, sizes = (("add", 0, 5), ("set", 1, 0)), (1, 2), (3, 4)
        done(deeds, boxes, sizes, Letters(1))
        self.assertEqual((deeds, boxes, sizes), ((("add", 0, 5), ("set", 1, 0)), (1, 2), (3, 4)))


if __name__ == "__main__":
    unittest.main()
