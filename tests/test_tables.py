import itertools
import unittest

from by_words import all_ways, expected_after, expected_begun, words_of
from drawn import Draw, drawn_chart
from nesthall.charts import faults
from nesthall.errors import TooWide
from nesthall.runs import begun
from nesthall.stands import is_stand
from nesthall.tables import flat, ways
from samples import HOUSE, check_own_list, put

YES = ("yes",)
EVENTS = ("knock", "ring", "call", "hum", "rap", "tap", "whirr", "buzz")


def yard(doors, boxes=(), events=1, ins=(), lamp=""):
    """A chart with one room."""
    rooms = (("yard", "plain", 0, "", lamp, ins, ()),)
    return ("inner", 3, 5, boxes, EVENTS[:events], rooms, tuple(doors))


def counter(size, adds, start=0):
    """A chart whose one box each event adds a number to, and says `over` where it goes by the end."""
    doors = []
    for event, number in enumerate(adds):
        doors.append((0, event, ("under", 0, size - number), (("add", 0, number),), "stay", None))
        doors.append((0, event, YES, (("say", "over"), ("add", 0, number)), "stay", None))
    return yard(doors, (("coins", size, start),), len(adds))


def expected_stands(asked, longest):
    """Each stand with its way, out of all ways up to this length, in the order of the ways."""
    ends = {(): expected_begun(asked)[0]}
    found = {ends[()]: ()}
    for way in all_ways(len(asked[4]), longest):
        if way:
            ends[way] = expected_after(asked, ends[way[:-1]], way[-1])[0]
            found.setdefault(ends[way], way)
    return found


class Flat(unittest.TestCase):
    def table(self, asked, most=300):
        """The flat table, once each row is the same word by word."""
        self.assertEqual(faults(asked), [])
        told = flat(asked, most)
        words, rows, stands = told
        self.assertEqual([type(told), type(words), type(rows), type(stands)], [tuple, tuple, list, list])
        self.assertEqual(len(rows), len(stands))
        self.assertEqual(len(set(stands)), len(stands))
        start, record = expected_begun(asked)
        self.assertEqual((stands[0], words), (start, words_of(record)))
        for row, stand in zip(rows, stands):
            self.assertTrue(is_stand(asked, stand))
            lit = tuple(asked[5][room][4] for room in stand[0] if asked[5][room][4] != "")
            moves = []
            for event in range(len(asked[4])):
                end, record = expected_after(asked, stand, event)
                moves.append((words_of(record), stands.index(end)))
            self.assertEqual(row, (lit, tuple(moves)))
            self.assertEqual({type(number) for _, number in row[1]} - {int}, set())
        return told

    def refused(self, asked, most):
        with self.assertRaises(TooWide) as caught:
            flat(asked, most)
        told = caught.exception.ways
        self.assertIs(type(told), list)
        self.assertEqual({type(way) for way in told} - {tuple}, set())
        self.assertEqual({type(event) for way in told for event in way} - {int}, set())
        return told

    def bounded(self, asked, expected):
        """The table has just so many rows with these ways; with fewer let by it is refused."""
        self.assertEqual(ways(self.table(asked)[1]), expected)
        self.assertEqual(len(self.table(asked, len(expected))[1]), len(expected))
        for most in range(1, len(expected)):
            self.assertEqual(self.refused(asked, most), expected[:most + 1])

    def test_a_chart_without_events(self):
        told = self.table(yard([], (("coins", 5, 3),), 0, (("say", "hum"), ("add", 0, 1)), "red"), 1)
        self.assertEqual(told, (("hum",), [(("red",), ())], [((0,), (4,), ((),))]))
        told = self.table(put(yard([], (), 0), 5, HOUSE), 1)
        self.assertEqual(told[:2], ((), [(("red", "green", "red", "blue"), ())]))

    def test_one_stand(self):
        told = self.table(yard([], (), 3), 1)
        self.assertEqual(told, ((), [((), (((), 0),) * 3)], [((0,), (), ((),))]))
        doors = [(0, 1, YES, (("say", "one"), ("say", "two")), "stay", None), (0, 2, YES, (), "to", 0)]
        told = self.table(yard(doors, (), 3), 1)
        self.assertEqual(told[1], [((), (((), 0), (("one", "two"), 0), ((), 0)))])

    def test_eight_events(self):
        doors = [(0, event, YES, (("say", EVENTS[event]),), "stay", None) for event in range(8)]
        self.assertEqual(self.table(yard(doors, (), 8))[1], [((), tuple(((word,), 0) for word in EVENTS))])

    def test_several_stands_in_the_order_of_their_ways(self):
        told = self.table(counter(4, [1]))
        self.assertEqual(told, ((), [
            ((), (((), 1),)), ((), (((), 2),)), ((), (((), 3),)), ((), ((("over",), 0),)),
        ], [((0,), (number,), ((),)) for number in range(4)]))
        told = self.table(counter(5, [3, 1]))
        self.assertEqual([stand[1][0] for stand in told[2]], [0, 3, 1, 4, 2])
        self.assertEqual(told[1], [
            ((), (((), 1), ((), 2))),
            ((), ((("over",), 2), ((), 3))),
            ((), (((), 3), ((), 4))),
            ((), ((("over",), 4), (("over",), 0))),
            ((), ((("over",), 0), ((), 1))),
        ])

    def test_a_shorter_way_comes_before_a_lesser_one(self):
        # To the stand of the box at 2 lead both (0, 0) and (2,).
        told = self.table(counter(9, [1, 5, 2]))
        self.assertEqual([stand[1][0] for stand in told[2]], [0, 1, 5, 2, 6, 3, 7, 4, 8])
        self.assertEqual(ways(told[1]), [(), (0,), (1,), (2,), (0, 1), (0, 2), (1, 2), (2, 2), (0, 1, 2)])

    def test_the_words_of_the_beginning(self):
        ins = (("say", "one"), ("send", 0), ("say", "two"))
        doors = [(0, 0, YES, (("say", "three"), ("add", 0, 1)), "stay", None)]
        told = self.table(yard(doors, (("coins", 2, 0),), 1, ins))
        self.assertEqual(told[0], ("one", "two", "three"))
        self.assertEqual([stand[1] for stand in told[2]], [(1,), (0,)])

    def test_stands_that_differ_in_what_is_kept_alone(self):
        doors = (
            (4, 0, YES, (), "to", 5), (1, 1, YES, (("say", "leave"),), "to", 11), (11, 0, YES, (), "to", 1),
            (11, 1, YES, (("say", "home"),), "back", 3),
        )
        told = self.table(("inner", 3, 5, (), EVENTS[:2], HOUSE, doors))
        self.assertEqual([stand[0] for stand in told[2]].count((0, 11)), 2)
        left = [number for number, stand in enumerate(told[2]) if stand[0] == (0, 11)]
        ends = [told[2][told[1][number][1][1][1]][0] for number in left]
        self.assertEqual(ends, [(0, 1, 2, 3, 4, 6, 7), (0, 1, 2, 3, 5, 6, 7)])

    def test_lamps_of_each_row(self):
        doors = ((4, 0, YES, (), "to", 5), (5, 0, YES, (), "to", 11), (11, 0, YES, (), "to", 15))
        told = self.table(("inner", 3, 5, (), EVENTS[:1], HOUSE, doors))
        self.assertEqual([row[0] for row in told[1]], [
            ("red", "green", "red", "blue"), ("red", "green", "blue"), (), ("green",),
        ])

    def test_as_many_rows_as_are_let_by_and_one_fewer(self):
        self.bounded(yard([]), [()])
        self.bounded(counter(2, [1]), [(), (0,)])
        self.bounded(counter(4, [1]), [(), (0,), (0, 0), (0, 0, 0)])
        self.bounded(counter(5, [3, 1]), [(), (0,), (1,), (0, 1), (1, 1)])
        self.bounded(counter(9, [1, 5, 2]), [(), (0,), (1,), (2,), (0, 1), (0, 2), (1, 2), (2, 2), (0, 1, 2)])

    def test_three_hundred_rows_and_one_more(self):
        self.assertEqual(len(self.table(counter(300, [1]), 300)[1]), 300)
        self.assertEqual(self.refused(counter(300, [1]), 299), [(0,) * length for length in range(300)])
        self.assertEqual(self.refused(counter(301, [1]), 300), [(0,) * length for length in range(301)])

    def test_far_too_many_stands(self):
        asked = counter(10 ** 30, [1, -1, 10 ** 29])
        for most in (1, 2, 5, 300):
            told = self.refused(asked, most)
            self.assertEqual(len(told), most + 1)
            self.assertEqual(told, sorted(told, key=lambda way: (len(way), way)))
        self.assertEqual(self.refused(asked, 6), [(), (0,), (1,), (2,), (0, 0), (0, 2), (1, 1)])

    def test_the_ways_of_drawn_charts(self):
        counts = []
        for seed in range(300):
            asked = drawn_chart(seed)
            expected = expected_stands(asked, 5 if len(asked[4]) < 3 else 4)
            told = flat(asked, 300)
            far = [way for way in expected.values() if len(way) == (5 if len(asked[4]) < 3 else 4)]
            if not far:
                self.assertEqual(dict(zip(told[2], ways(told[1]))), expected)
                self.assertEqual(told[2], list(expected))
                self.table(asked, len(expected))
                for most in range(1, len(expected)):
                    self.assertEqual(self.refused(asked, most), list(expected.values())[:most + 1])
            else:
                near = len(expected) - len(far)
                self.assertEqual(told[2][:near], list(expected)[:near])
            counts.append(0 if far else len(expected))
        self.assertGreater(len([count for count in counts if count > 5]), 10)

    def test_told_lists_are_the_askers_own(self):
        asked = counter(4, [1])
        for place in (1, 2):
            check_own_list(self, lambda: flat(asked, 300)[place])
        check_own_list(self, lambda: self.refused(asked, 3))
        told = flat(asked, 4)
        told[1].clear()
        self.assertEqual(told[2], flat(asked, 4)[2])


class Ways(unittest.TestCase):
    def table(self, moves):
        """A table with these moves."""
        return [((), tuple((("hum",), to) for to in row)) for row in moves]

    def told(self, moves, expected):
        with self.subTest(moves):
            rows = self.table(moves)
            told = ways(rows)
            self.assertEqual(told, expected)
            self.assertIs(type(told), list)
            self.assertEqual(rows, self.table(moves))
            self.assertEqual({type(way) for way in told} - {tuple, type(None)}, set())
            self.assertEqual({type(event) for way in told if way for event in way} - {int}, set())

    def test_one_row(self):
        self.told([[]], [()])
        self.told([[0]], [()])
        self.told([[0, 0, 0]], [()])

    def test_rows_without_events(self):
        self.told([[], []], [(), None])
        self.told([[], [], []], [(), None, None])

    def test_rows_to_which_none_leads(self):
        self.told([[0], [0]], [(), None])
        self.told([[2, 0], [2, 2], [0, 2]], [(), None, (0,)])
        self.told([[1], [0], [1], [2]], [(), (0,), None, None])
        self.told([[0], [2], [1]], [(), None, None])

    def test_rows_that_are_not_in_the_order_of_their_ways(self):
        self.told([[3], [0], [1], [2]], [(), (0, 0, 0), (0, 0), (0,)])
        self.told([[2, 1], [0, 0], [3, 0], [3, 3]], [(), (1,), (0,), (0, 0)])

    def test_several_ways_of_the_same_length(self):
        self.told([[1, 1], [1, 1]], [(), (0,)])
        self.told([[1, 2], [0, 3], [3, 3], [0, 0]], [(), (0,), (1,), (0, 1)])
        self.told([[2, 1], [3, 0], [0, 3], [0, 0]], [(), (1,), (0,), (0, 1)])
        self.told([[1, 2, 3], [0, 0, 0], [0, 4, 0], [4, 0, 0], [0, 0, 0]], [(), (0,), (1,), (2,), (1, 1)])

    def test_a_shorter_way_comes_before_a_lesser_one(self):
        self.told([[1, 2], [2, 0], [0, 0]], [(), (0,), (1,)])
        self.told([[1, 3], [2, 0], [3, 3], [0, 0]], [(), (0,), (0, 0), (1,)])

    def test_the_words_and_lamps_change_nothing(self):
        rows = [(("red",), (((), 1),)), ((), ((("one", "two"), 0),)), (("red", "blue"), (((), 0),))]
        self.assertEqual(ways(rows), [(), (0,), None])

    def test_three_hundred_rows(self):
        self.told([[(row + 1) % 300] for row in range(300)], [(0,) * row for row in range(300)])
        self.told([[(row + 1) % 300, row - row % 2] for row in range(300)], [(0,) * row for row in range(300)])
        self.told([list(range(8))] + [[0] * 8] * 292, [(), *[(event,) for event in range(1, 8)]] + [None] * 285)

    def test_each_small_table(self):
        for count, events in ((1, 0), (2, 0), (2, 1), (2, 2), (3, 1), (3, 2), (4, 1)):
            for flat_moves in itertools.product(range(count), repeat=count * events):
                moves = [flat_moves[row * events:(row + 1) * events] for row in range(count)]
                self.assertEqual(ways(self.table(moves)), self.expected(moves, events))

    def test_drawn_tables(self):
        for seed in range(200):
            draw = Draw(seed)
            count, events = 2 + draw.below(4), 1 + draw.below(3)
            moves = [[draw.below(count) for _ in range(events)] for _ in range(count)]
            self.assertEqual(ways(self.table(moves)), self.expected(moves, events))

    def expected(self, moves, events):
        """The first of all ways that leads to each row."""
        told = [None] * len(moves)
        for way in all_ways(events, len(moves)):
            row = 0
            for event in way:
                row = moves[row][event]
            told[row] = way if told[row] is None else told[row]
        return told

    def test_a_told_list_is_the_askers_own(self):
        for moves in ([[]], [[1], [0]]):
            check_own_list(self, lambda: ways(self.table(moves)))


class Beginning(unittest.TestCase):
    def test_the_first_row_is_the_beginning(self):
        for seed in range(50):
            asked = drawn_chart(seed)
            self.assertEqual(flat(asked, 300)[2][0], begun(asked)[0])


if __name__ == "__main__":
    unittest.main()
