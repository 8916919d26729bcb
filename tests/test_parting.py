import itertools
import unittest

from by_words import expected_parting, is_parted_by, parted_lengths
from drawn import Draw, drawn_table
from nesthall.parting import parting
from samples import table


class Parting(unittest.TestCase):
    def told(self, rows, one, other):
        """The parting, the same in both orders, with nothing changed."""
        own = list(rows)
        told = parting(rows, one, other)
        self.assertEqual(parting(rows, other, one), told)
        self.assertEqual(rows, own)
        if told is not None:
            self.assertIs(type(told), tuple)
            self.assertEqual({type(event) for event in told} - {int}, set())
        return told

    def check(self, rows, one, other, expected):
        with self.subTest(rows=rows, one=one, other=other):
            self.assertEqual(self.told(rows, one, other), expected)
            # As all ways up to a length are gone along, long tables are left to the written word.
            if len(rows) < 7:
                self.assertEqual(expected_parting(rows, one, other, len(rows)), expected)

    def test_unlike_lamps(self):
        lit = {1: ("red",), 2: ("blue",), 3: ("red", "blue"), 4: ("blue", "red")}
        rows = table([[0, 1], [0, 1], [0, 1], [0, 1], [0, 1]], lit)
        for one, other in itertools.combinations(range(5), 2):
            self.check(rows, one, other, ())

    def test_lamps_with_the_same_signs(self):
        rows = table([[], [], [], []], {0: ("ab", "c"), 1: ("a", "bc"), 2: ("abc",), 3: ("ab", "c", "c")})
        for one, other in itertools.combinations(range(4), 2):
            self.check(rows, one, other, ())

    def test_lamps_come_before_words(self):
        rows = table([[0], [0]], {1: ("red",)}, {(0, 0): ("hum",)})
        self.check(rows, 0, 1, ())

    def test_tables_without_events(self):
        rows = table([[], [], []], {2: ("red",)})
        self.check(rows, 0, 1, None)
        self.check(rows, 0, 2, ())
        self.check(rows, 1, 2, ())
        self.check(table([[]]), 0, 0, None)

    def test_unlike_first_words(self):
        rows = table([[0], [1]], None, {(1, 0): ("hum",)})
        self.check(rows, 0, 1, (0,))
        rows = table([[0, 0], [1, 1]], None, {(0, 1): ("hum",), (1, 1): ("rap",)})
        self.check(rows, 0, 1, (1,))
        rows = table([[0, 0], [1, 1]], None, {(0, 1): ("hum",), (1, 1): ("hum", "hum")})
        self.check(rows, 0, 1, (1,))

    def test_the_same_words_in_another_order(self):
        rows = table([[0], [1]], None, {(0, 0): ("hum", "rap"), (1, 0): ("rap", "hum")})
        self.check(rows, 0, 1, (0,))

    def test_the_same_signs_parted_in_other_words(self):
        spoken = [("ab", "c"), ("a", "bc"), ("abc",), ("abc", "abc"), ("abca", "bc")]
        rows = table([[0]] * 5, None, {(row, 0): words for row, words in enumerate(spoken)})
        for one, other in itertools.combinations(range(5), 2):
            self.check(rows, one, other, (0,))

    def test_the_same_words_by_other_events(self):
        # By two events both say hum once, but not by the same one of them.
        rows = table([[2], [3], [2], [2]], None, {(0, 0): ("hum",), (3, 0): ("hum",)})
        self.check(rows, 0, 1, (0,))
        self.check(rows, 1, 2, (0, 0))
        self.check(rows, 0, 3, None)

    def test_lamps_behind_an_event(self):
        rows = table([[0, 2], [1, 3], [2, 2], [3, 3]], {3: ("red",)})
        self.check(rows, 0, 1, (1,))
        self.check(rows, 0, 2, None)
        self.check(rows, 1, 2, (1,))
        self.check(rows, 1, 3, ())

    def test_an_early_event_that_parts_by_lamps_comes_before_one_that_does_by_words(self):
        rows = table([[2, 0], [3, 1], [2, 2], [3, 3]], {3: ("red",)}, {(0, 1): ("hum",)})
        self.check(rows, 0, 1, (0,))
        rows = table([[0, 2], [1, 3], [2, 2], [3, 3]], {3: ("red",)}, {(0, 0): ("hum",)})
        self.check(rows, 0, 1, (0,))

    def test_after_several_events(self):
        rows = table([[1], [2], [3], [3]], None, {(3, 0): ("hum",)})
        self.check(rows, 0, 1, (0, 0, 0))
        self.check(rows, 0, 2, (0, 0))
        self.check(rows, 0, 3, (0,))
        self.check(rows, 1, 2, (0, 0))
        rows = table([[0, 0, 2], [1, 1, 3], [2, 4, 2], [3, 5, 3], [4, 4, 4], [5, 5, 5]], {5: ("red",)})
        self.check(rows, 0, 1, (2, 1))
        self.check(rows, 2, 3, (1,))

    def test_two_ways_of_the_same_length(self):
        # Both (0, 1) and (1, 0) part the first two rows.
        rows = table([[2, 4], [3, 5], [2, 2], [3, 3], [4, 4], [5, 5]], None, {(3, 1): ("hum",), (5, 0): ("hum",)})
        self.check(rows, 0, 1, (0, 1))
        rows = table([[2, 4], [3, 5], [2, 2], [3, 3], [4, 4], [5, 5]], None, {(5, 1): ("hum",), (5, 0): ("hum",)})
        self.check(rows, 0, 1, (1, 0))
        rows = table([[0, 2, 2], [1, 3, 3], [2, 2, 2], [3, 3, 3]], {3: ("red",)})
        self.check(rows, 0, 1, (1,))
        rows = table([[0, 0, 0], [1, 1, 1]], None, {(1, 1): ("hum",), (1, 2): ("hum",)})
        self.check(rows, 0, 1, (1,))

    def test_a_shorter_way_comes_before_a_lesser_one(self):
        rows = table([[2, 0], [3, 1], [2, 2], [3, 3]], None, {(3, 0): ("hum",), (1, 1): ("rap",)})
        self.check(rows, 0, 1, (1,))

    def test_rows_that_are_alike(self):
        self.check(table([[0], [1]]), 0, 1, None)
        self.check(table([[1], [0]]), 0, 1, None)
        rows = table([[1, 0], [0, 1]], {0: ("red",), 1: ("red",)}, {(0, 1): ("hum",), (1, 1): ("hum",)})
        self.check(rows, 0, 1, None)
        # Each leads to the other one, and a third lies beside both.
        rows = table([[1, 2], [0, 2], [2, 2]], {2: ("red",)}, {(2, 0): ("hum",)})
        self.check(rows, 0, 1, None)
        self.check(rows, 0, 2, ())
        # A ring of two and one of three.
        self.check(table([[1], [0], [3], [4], [2]]), 0, 2, None)

    def test_a_row_and_itself(self):
        for seed in range(30):
            rows = drawn_table(seed)
            for row in range(len(rows)):
                self.check(rows, row, row, None)

    def test_rows_that_meet(self):
        # From where both roads lead to one row nothing parts them, whatever comes then.
        rows = table([[2], [2], [0]], None, {(2, 0): ("hum",)})
        self.check(rows, 0, 1, None)
        self.check(rows, 0, 2, (0,))

    def test_rows_that_change_places(self):
        # The event 0 leads each of both to the other; the event 1 parts what the event 0 does not.
        rows = table([[1, 2], [0, 3], [2, 2], [3, 4], [4, 4]], {4: ("red",)})
        self.check(rows, 0, 1, (1, 1))

    def test_a_long_table_in_which_each_row_leads_to_the_next(self):
        rows = table([[min(row + 1, 299)] for row in range(300)], {299: ("red",)})
        self.check(rows, 0, 1, (0,) * 298)
        self.check(rows, 0, 150, (0,) * 149)
        self.check(rows, 297, 298, (0,))
        self.check(rows, 298, 299, ())
        rows = table([[0, (row + 1) % 300] for row in range(300)], None, {(299, 1): ("hum",)})
        self.check(rows, 0, 1, (1,) * 299)
        self.check(rows, 0, 299, (1,))

    def test_long_rings_that_are_alike(self):
        # The pairs of such rings are many thousand, one behind the other.
        rows = table([[(row + 1) % 151] for row in range(151)] + [[151 + (row + 1) % 149] for row in range(149)])
        self.check(rows, 0, 151, None)
        self.check(rows, 7, 299, None)

    def test_three_hundred_rows_with_eight_events(self):
        moves = [[(row * (event + 3) + event * 17 + 1) % 300 for event in range(8)] for row in range(300)]
        self.check(table(moves), 0, 1, None)
        rows = table(moves, None, {(row, 7): ("hum",) for row in range(29, 300, 30)})
        for other in range(1, 300, 23):
            told = self.told(rows, 0, other)
            self.assertEqual(told, expected_parting(rows, 0, other, len(told)))

    def test_the_table_turned_round(self):
        for seed in range(60):
            rows = drawn_table(seed)
            last = len(rows) - 1
            turned = [(lit, tuple((words, last - to) for words, to in moves)) for lit, moves in rows[::-1]]
            for one, other in itertools.product(range(len(rows)), repeat=2):
                self.assertEqual(self.told(turned, last - one, last - other), self.told(rows, one, other))

    def test_each_small_table(self):
        for count, events in ((2, 1), (2, 2), (3, 1)):
            for ends in itertools.product(range(count), repeat=count * events):
                moves = [ends[row * events:(row + 1) * events] for row in range(count)]
                for said_by in itertools.product((0, 1), repeat=count * events):
                    places = list(itertools.product(range(count), range(events)))
                    rows = table(moves, None, {place: ("hum",) * said for place, said in zip(places, said_by)})
                    for one, other in itertools.combinations(range(count), 2):
                        self.assertEqual(self.told(rows, one, other), expected_parting(rows, one, other, count))

    def test_drawn_tables(self):
        lengths = []
        for seed in range(500):
            rows = drawn_table(seed)
            for one, other in itertools.combinations(range(len(rows)), 2):
                told = self.told(rows, one, other)
                self.assertEqual(told, expected_parting(rows, one, other, len(rows) - 1))
                lengths.append(-1 if told is None else len(told))
        self.assertEqual(set(lengths), set(range(-1, max(lengths) + 1)))
        self.assertGreater(max(lengths), 2)
        self.assertGreater(lengths.count(-1), 100)

    def test_greater_drawn_tables(self):
        for seed in range(40):
            rows = drawn_table(seed, 30, 3)
            lengths = parted_lengths(rows)
            draw = Draw(seed)
            for _ in range(40):
                one, other = draw.below(len(rows)), draw.below(len(rows))
                told = self.told(rows, one, other)
                self.assertEqual(None if told is None else len(told), lengths.get((one, other)))
                if told is not None:
                    self.check_first(rows, one, other, told, lengths)

    def check_first(self, rows, one, other, way, lengths):
        """The way parts the rows, and none of its length that comes before it does."""
        self.assertTrue(is_parted_by(rows, one, other, way))
        for place, event in enumerate(way):
            left = len(way) - place - 1
            for lesser in range(event + 1):
                first, second = rows[one][1][lesser], rows[other][1][lesser]
                reached = lengths.get((first[1], second[1])) == left or left == 0 and first[0] != second[0]
                self.assertEqual(reached, lesser == event)
            one, other = rows[one][1][event][1], rows[other][1][event][1]


if __name__ == "__main__":
    unittest.main()
