import itertools
import unittest

from by_words import expected_shrunk, gone_along, parted_lengths
from drawn import Draw, drawn_table
from nesthall.shrinking import shrunk
from samples import check_list_of_numbers, check_own_list, table


class Shrinking(unittest.TestCase):
    def told(self, rows):
        """The fold and the small table, of the kinds that are promised, with nothing changed."""
        own = list(rows)
        told = shrunk(rows)
        self.assertEqual(rows, own)
        fold, small = told
        self.assertEqual([type(told), type(fold), type(small)], [tuple, list, list])
        check_list_of_numbers(self, fold, fold)
        self.assertEqual(len(fold), len(rows))
        # The numbers stand in the order of the first ones.
        self.assertEqual(list(dict.fromkeys(fold)), list(range(len(small))))
        for row in small:
            steps = row[1]
            self.assertEqual([type(row), type(row[0]), type(steps)], [tuple] * 3)
            self.assertEqual({type(part) for step in steps for part in (step, step[0])} - {tuple}, set())
            self.assertEqual({type(to) for _, to in steps} - {int}, set())
        for number, (lit, steps) in zip(fold, rows):
            self.assertEqual(small[number], (lit, tuple((words, fold[to]) for words, to in steps)))
        return told

    def check(self, rows, fold, small=None):
        """The rows become these ones, and the small table stays when it is shrunk."""
        with self.subTest(rows):
            told = self.told(rows)
            self.assertEqual(told[0], fold)
            self.assertEqual(self.told(told[1]), (list(range(len(told[1]))), told[1]))
            if small is not None:
                self.assertEqual(told[1], small)
            if len(rows) < 20:
                self.assertEqual(told, expected_shrunk(rows))

    def stays(self, rows):
        self.check(rows, list(range(len(rows))), rows)

    def test_one_row(self):
        for rows in (table([[]]), table([[0]]), table([[0, 0]], {0: ("red",)}, {(0, 1): ("hum", "rap")})):
            self.stays(rows)

    def test_tables_without_events(self):
        self.check(table([[], [], []]), [0, 0, 0], table([[]]))
        rows = table([[], [], [], []], {1: ("red",), 3: ("red",)})
        self.check(rows, [0, 1, 0, 1], rows[:2])
        self.stays(table([[], [], []], {0: ("red", "blue"), 1: ("blue", "red"), 2: ("red",)}))

    def test_no_two_rows_alike(self):
        self.stays(table([[1], [2], [0]], {0: ("red",), 1: ("blue",)}))
        self.stays(table([[0], [0], [0]], None, {(0, 0): ("hum",), (2, 0): ("hum", "hum")}))
        self.stays(table([[1], [2], [3], [3]], {3: ("red",)}))
        self.stays(table([[3], [0], [1], [2]], {1: ("red",)}))
        self.stays(table([[2, 1], [0, 0], [3, 0], [3, 3]], None, {(2, 0): ("hum",), (3, 1): ("hum",)}))

    def test_all_alike(self):
        for moves in ([[0], [0], [0]], [[1], [2], [0]], [[2], [2], [2]], [[0], [1], [2]]):
            self.check(table(moves), [0, 0, 0], table([[0]]))
        rows = table([[1, 3], [0, 2], [3, 0], [2, 2]], {row: ("red",) for row in range(4)},
                     {(row, 1): ("hum",) for row in range(4)})
        self.check(rows, [0] * 4, [(("red",), (((), 0), (("hum",), 0)))])

    def test_unlike_lamps(self):
        rows = table([[0]] * 6, {0: ("ab", "c"), 1: ("a", "bc"), 2: ("abc",), 3: ("c", "ab"), 4: ("a", "bc")})
        self.check(rows, [0, 1, 2, 3, 1, 4], rows[:4] + rows[5:])

    def test_unlike_words(self):
        spoken = [("ab", "c"), ("a", "bc"), ("abc",), ("c", "ab"), ("a", "bc"), ()]
        rows = table([[0, 0]] * 6, None, {(row, 1): words for row, words in enumerate(spoken)})
        self.check(rows, [0, 1, 2, 3, 1, 4], rows[:4] + rows[5:])
        # The same words by the events in another order.
        rows = table([[0, 0], [0, 0]], None, {(0, 0): ("hum",), (1, 1): ("hum",)})
        self.stays(rows)

    def test_rows_whose_moves_lead_to_unlike_rows(self):
        rows = table([[2], [3], [2], [3]], {3: ("red",)})
        self.check(rows, [0, 1, 0, 2], table([[0], [2], [2]], {2: ("red",)}))
        rows = table([[2, 3], [3, 2], [2, 2], [3, 3]], {2: ("blue",), 3: ("red",)})
        self.stays(rows)

    def test_alike_since_their_moves_lead_to_rows_that_are_alike(self):
        rows = table([[2], [3], [4], [5], [4], [5]], {4: ("red",), 5: ("red",)})
        self.check(rows, [0, 0, 1, 1, 2, 2], table([[1], [2], [2]], {2: ("red",)}))
        rows = table([[1, 2], [3, 3], [4, 4], [3, 3], [3, 4]], {3: ("red",), 4: ("red",)}, {(0, 0): ("hum",)})
        self.check(rows, [0, 1, 1, 2, 2], table([[1, 1], [2, 2], [2, 2]], {2: ("red",)}, {(0, 0): ("hum",)}))

    def test_rings(self):
        self.check(table([[1], [0]]), [0, 0], table([[0]]))
        rows = table([[1], [2], [3], [4], [5], [0]], {0: ("red",), 3: ("red",)})
        self.check(rows, [0, 1, 2, 0, 1, 2], table([[1], [2], [0]], {0: ("red",)}))
        # A ring of two and one of four, and one of three that is unlike both.
        lit = {row: ("red",) for row in (0, 2, 4, 6)}
        rows = table([[1], [0], [3], [4], [5], [2], [7], [8], [6]], lit)
        self.check(rows, [0, 1, 0, 1, 0, 1, 2, 3, 4], table([[1], [0], [3], [4], [2]], {0: ("red",), 2: ("red",)}))

    def test_rows_that_are_told_apart_late(self):
        # Only the way of three events from row 0 parts it from row 1.
        rows = table([[2], [3], [4], [5], [4], [5]], None, {(5, 0): ("hum",)})
        self.check(rows, [0, 1, 0, 2, 0, 3], table([[0], [2], [3], [3]], None, {(3, 0): ("hum",)}))

    def test_the_numbers_stand_in_the_order_of_the_first_rows(self):
        rows = table([[3], [3], [3], [3], [0]], {0: ("red",), 1: ("blue",), 3: ("blue",), 4: ("red",)})
        self.check(rows, [0, 1, 2, 1, 3])
        rows = table([[4], [2], [1], [0], [3]], {0: ("zinc",), 3: ("ash",), 4: ("zinc",)})
        self.check(rows, [0, 1, 1, 2, 3])
        # Rows that the lamps alone put together at first are parted, and the one ahead has the lesser number.
        rows = table([[0], [0], [0], [2]], {3: ("red",)}, {(1, 0): ("hum",), (2, 0): ("hum",)})
        self.check(rows, [0, 1, 1, 2], table([[0], [0], [1]], {2: ("red",)}, {(1, 0): ("hum",)}))

    def test_rows_to_which_no_way_leads(self):
        rows = table([[0], [1], [1], [3]], {1: ("red",), 3: ("blue",)})
        self.check(rows, [0, 1, 2, 3], rows)
        rows = table([[0], [0], [2], [2]], {2: ("red",), 3: ("red",)})
        self.check(rows, [0, 0, 1, 1], table([[0], [1]], {1: ("red",)}))
        rows = table([[1], [1], [0], [3]], {1: ("red",), 3: ("red",)})
        self.check(rows, [0, 1, 2, 1], table([[1], [1], [0]], {1: ("red",)}))

    def test_three_hundred_rows(self):
        self.check(table([[(row + 1) % 300] for row in range(300)]), [0] * 300, table([[0]]))
        self.stays(table([[min(row + 1, 299)] for row in range(300)], {299: ("red",)}))
        self.stays(table([[min(row + 1, 299)] * 8 for row in range(300)], None, {(299, 7): ("hum",)}))
        rows = table([[(row + 1) % 300] for row in range(300)], {row: ("red",) for row in range(0, 300, 50)})
        small = table([[(row + 1) % 50] for row in range(50)], {0: ("red",)})
        self.check(rows, [row % 50 for row in range(300)], small)
        rows = table([[(row * 7 + event) % 300 for event in range(8)] for row in range(300)])
        self.check(rows, [0] * 300, table([[0] * 8]))

    def test_the_same_table_twice(self):
        for seed in range(100):
            rows = drawn_table(seed)
            count = len(rows)
            twice = rows + [(lit, tuple((words, to + count) for words, to in moves)) for lit, moves in rows]
            fold, small = self.told(rows)
            self.assertEqual(self.told(twice), (fold + fold, small))

    def test_the_table_mixed(self):
        for seed in range(100):
            rows = drawn_table(seed)
            places = sorted(range(len(rows)), key=lambda row: (row * 5 + seed) % 7)
            mixed = [(rows[row][0], tuple((words, places.index(to)) for words, to in rows[row][1])) for row in places]
            fold, mixed_fold = self.told(rows)[0], self.told(mixed)[0]
            for one, other in itertools.product(range(len(rows)), repeat=2):
                same = mixed_fold[places.index(one)] == mixed_fold[places.index(other)]
                self.assertEqual(same, fold[one] == fold[other])

    def test_each_small_table(self):
        for count, events in ((1, 1), (2, 1), (2, 2), (3, 1)):
            places = list(itertools.product(range(count), range(events)))
            for ends in itertools.product(range(count), repeat=count * events):
                moves = [ends[row * events:(row + 1) * events] for row in range(count)]
                for marks in itertools.product((0, 1), repeat=count * events):
                    rows = table(moves, None, {place: ("hum",) * mark for place, mark in zip(places, marks)})
                    self.assertEqual(self.told(rows), expected_shrunk(rows))

    def test_drawn_tables(self):
        lesser = 0
        for seed in range(600):
            rows = drawn_table(seed, 12, 3)
            fold, small = self.told(rows)
            self.assertEqual((fold, small), expected_shrunk(rows))
            self.assertEqual(self.told(small), (list(range(len(small))), small))
            self.assertEqual(len(parted_lengths(small)), len(small) * (len(small) - 1))
            lesser += 1 < len(small) < len(rows)
        self.assertGreater(lesser, 100)

    def test_the_small_table_does_the_same(self):
        for seed in range(60):
            rows = drawn_table(seed, 40, 4)
            fold, small = self.told(rows)
            draw = Draw(seed)
            way = [draw.below(len(rows[0][1])) for _ in range(30)] if rows[0][1] else []
            for row in range(len(rows)):
                for length in range(len(way) + 1):
                    words, end = gone_along(rows, row, way[:length])
                    small_words, small_end = gone_along(small, fold[row], way[:length])
                    self.assertEqual((small_words, small_end), (words, fold[end]))
                    self.assertEqual(small[small_end][0], rows[end][0])

    def test_told_lists_are_the_askers_own(self):
        rows = table([[1], [0], [0]], {2: ("red",)})
        for place in (0, 1):
            check_own_list(self, lambda: shrunk(rows)[place])
            check_own_list(self, lambda: shrunk(rows[:2])[place])
        told = shrunk(rows)
        told[0].clear()
        told[1].pop()
        self.assertEqual(shrunk(rows), ([0, 0, 1], table([[0], [0]], {1: ("red",)})))
        rows.append(rows[2])
        self.assertEqual(told[1], table([[0]]))
        # A table that stays is another list, not the one that was handed in.
        rows = table([[0]])
        self.assertIsNot(shrunk(rows)[1], rows)
        shrunk(rows)[1].append(rows[0])
        self.assertEqual(rows, table([[0]]))


if __name__ == "__main__":
    unittest.main()
