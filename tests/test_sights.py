import unittest

from by_words import expected_seen
from drawn import LIVELY, drawn_chart
from nesthall.charts import faults
from nesthall.errors import TooWide
from nesthall.sights import seen
from nesthall.tables import flat, ways
from samples import HOUSE, check_own_list, put

YES = ("yes",)
NEVER = ("not", YES)
EVENTS = ("knock", "ring", "call", "hum", "rap", "tap", "whirr", "buzz")


def plain(name, ins=(), outs=()):
    """A plain room in the first one."""
    return (name, "plain", 1, "", "", ins, outs)


def row_of_rooms(count, doors, events=2, ins=None, boxes=(), kind="one", letters=3, turns=5):
    """A chart with a first room of this kind and so many plain rooms in it; ins tells the deeds of some rooms."""
    names = ("ash", "bee", "cow", "dew", "elm", "fir", "gnu")
    told = ins or {}
    first = ("yard", kind, 0, "", "", told.get(0, ()), ())
    rooms = (first, *[plain(names[number], told.get(number + 1, ())) for number in range(count)])
    return ("inner", letters, turns, boxes, EVENTS[:events], rooms, tuple(doors))


def door(room, event, goal, guard=YES, deeds=()):
    """A door that leads to the goal, or stays where this is None."""
    return (room, event, guard, deeds, "stay" if goal is None else "to", goal)


def stands_of(chart):
    return len(flat(chart, 300)[1])


class Seen(unittest.TestCase):
    def told(self, asked, most=300):
        """What is seen, of the kinds that are promised."""
        self.assertEqual(faults(asked), [])
        told = seen(asked, most)
        self.assertEqual([type(told), *map(type, told)], [tuple, list, list])
        self.assertEqual([len(part) for part in told], [len(asked[5]), len(asked[6])])
        found = [way for part in told for way in part if way is not None]
        self.assertEqual({type(way) for way in found} - {tuple}, set())
        self.assertEqual({type(event) for way in found for event in way} - {int}, set())
        return told

    def check(self, asked, rooms, doors):
        """Just this is seen, and it is the same out of all ways up to the length of three."""
        told = self.told(asked)
        self.assertEqual(told, (rooms, doors))
        near = tuple([way if way and len(way) < 4 or way == () else None for way in part] for part in told)
        self.assertEqual(expected_seen(asked, 3), near)

    def refused(self, asked, most):
        """The ways of the refusal, once the flat table is refused with the same ones."""
        found = []
        for ask in (seen, flat):
            with self.assertRaises(TooWide) as caught:
                ask(asked, most)
            found.append(caught.exception.ways)
        self.assertIs(type(found[0]), list)
        self.assertEqual(found[0], found[1])
        return found[0]

    def test_the_beginning_alone(self):
        self.check(("inner", 0, 1, (), (), (plain("yard")[:2] + (0, "", "", (), ()),), ()), [()], [])
        self.check(row_of_rooms(2, [], 0), [(), (), None], [])
        self.check(row_of_rooms(2, [], 0, kind="all"), [(), (), ()], [])

    def test_a_chart_without_doors(self):
        self.check(row_of_rooms(2, [], 3), [(), (), None], [])
        never = [None] * 3
        self.check(put(row_of_rooms(1, []), 5, HOUSE), [()] * 5 + [None] + [()] * 2 + never + [None] * 6, [])

    def test_the_letters_of_the_beginning(self):
        doors = [door(1, 0, 2), door(2, 1, 3), door(3, 0, None)]
        self.check(row_of_rooms(3, doors), [(), (), (0,), (0, 1)], [(0,), (0, 1), (0, 1, 0)])
        self.check(row_of_rooms(3, doors, ins={1: (("send", 0),)}), [(), (), (), (1,)], [(), (1,), (1, 0)])
        sent = (("send", 0), ("send", 1), ("send", 0))
        self.check(row_of_rooms(3, doors, ins={0: sent}), [()] * 4, [()] * 3)
        self.check(row_of_rooms(3, doors, ins={0: sent}, letters=2), [()] * 4, [(), (), (0,)])
        self.check(row_of_rooms(3, doors, ins={0: sent}, turns=3), [()] * 4, [(), (), (0,)])
        self.check(row_of_rooms(3, doors, ins={0: sent}, turns=1), [(), (), (0,), (0, 1)], [(0,), (0, 1), (0, 1, 0)])
        # The second room is left again before the beginning comes to rest.
        doors = [door(1, 0, 2), door(2, 1, 3)]
        self.check(row_of_rooms(3, doors, ins={1: (("send", 0),), 2: (("send", 1),)}), [()] * 4, [()] * 2)

    def test_by_one_event_and_by_several(self):
        doors = [door(1, 0, 2), door(1, 1, 3), door(2, 1, 4), door(3, 1, 5), door(5, 0, 6)]
        rooms = [(), (), (0,), (1,), (0, 1), (1, 1), (1, 1, 0)]
        self.check(row_of_rooms(6, doors), rooms, rooms[2:])

    def test_a_shorter_way_comes_before_a_lesser_one(self):
        doors = [door(1, 0, 2), door(2, 0, 3), door(1, 1, 3)]
        self.check(row_of_rooms(3, doors), [(), (), (0,), (1,)], [(0,), (0, 0), (1,)])
        doors = [door(1, 0, 2), door(2, 0, 3), door(3, 0, 4), door(1, 1, 5), door(5, 1, 4)]
        self.check(
            row_of_rooms(5, doors), [(), (), (0,), (0, 0), (1, 1), (1,)], [(0,), (0, 0), (0, 0, 0), (1,), (1, 1)],
        )

    def test_two_ways_of_the_same_length(self):
        doors = [door(1, 1, 2), door(1, 0, 3), door(2, 0, 4), door(3, 1, 4)]
        self.check(row_of_rooms(4, doors), [(), (), (1,), (0,), (0, 1)], [(1,), (0,), (1, 0), (0, 1)])
        doors = [door(1, 0, 2), door(1, 1, 2)]
        self.check(row_of_rooms(2, doors), [(), (), (0,)], [(0,), (1,)])
        doors = [door(1, 2, 2), door(1, 1, 2), door(2, 1, 3), door(2, 0, 3)]
        self.check(row_of_rooms(3, doors, 3), [(), (), (1,), (1, 0)], [(2,), (1,), (1, 1), (1, 0)])

    def test_a_room_that_is_open_all_along(self):
        doors = [door(1, 0, 2), door(2, 0, 1), door(0, 1, None)]
        self.check(row_of_rooms(2, doors), [(), (), (0,)], [(0,), (0, 0), (1,)])
        # Such a room counts where it is gone into, not where it is open: one beside it is gone into later alone.
        rooms = (
            ("yard", "one", 0, "", "", (), ()), plain("ash"), ("bee", "all", 1, "", "", (), ()),
            ("cow", "plain", 2, "", "", (), ()), ("dew", "plain", 2, "", "", (), ()), plain("elm"),
        )
        doors = (door(1, 0, 2), door(3, 0, None), door(4, 0, 5))
        self.check(put(put(row_of_rooms(1, []), 5, rooms), 6, doors), [(), (), (0,), (0,), (0,), (0, 0)],
                   [(0,), (0, 0), (0, 0)])

    def test_a_door_that_stays(self):
        doors = [door(1, 1, None), door(0, 0, None, deeds=(("say", "hum"),))]
        self.check(row_of_rooms(2, doors), [(), (), None], [(1,), (0,)])
        self.check(row_of_rooms(2, doors, ins={1: (("send", 1),)}), [(), (), None], [(), (0,)])

    def test_a_door_from_and_to_the_same_room(self):
        self.check(row_of_rooms(2, [door(1, 1, 1), door(0, 0, 0)]), [(), (), None], [(1,), (0,)])

    def test_doors_that_are_never_passed(self):
        doors = [door(1, 0, 2, NEVER), door(1, 0, 3), door(1, 0, 4), door(2, 0, 4), door(3, 1, 4, ("in", 1))]
        self.check(row_of_rooms(4, doors), [(), (), None, (0,), None], [None, (0,), None, None, None])
        boxes = (("coins", 4, 0),)
        doors = [door(1, 0, 2, ("is", 0, 3)), door(1, 1, None, deeds=(("add", 0, 2),))]
        self.check(row_of_rooms(2, doors, boxes=boxes), [(), (), None], [None, (1,)])

    def test_doors_that_are_not_chosen(self):
        doors = [door(0, 0, None), door(1, 0, 2, ("under", 0, 1)), door(0, 1, None, deeds=(("set", 0, 1),))]
        asked = row_of_rooms(2, doors, boxes=(("coins", 2, 0),))
        self.check(asked, [(), (), (0,)], [(0, 0), (0,), (1,)])
        self.check(put(asked, 0, "outer"), [(), (), None], [(0,), None, (1,)])

    def test_a_door_that_is_passed_over(self):
        # Both doors are chosen by the event 0, but the first one leaves the room of the second.
        rooms = (
            ("yard", "one", 0, "", "", (), ()), ("ash", "all", 1, "", "", (), ()),
            ("bee", "plain", 2, "", "", (), ()), ("cow", "plain", 2, "", "", (), ()), plain("dew"),
        )
        doors = (door(2, 0, 4), door(3, 0, None), door(4, 1, 1))
        asked = put(put(row_of_rooms(1, []), 5, rooms), 6, doors)
        self.check(asked, [(), (), (), (), (0,)], [(0,), None, (0, 1)])
        asked = put(asked, 6, doors + (door(3, 1, None),))
        self.check(asked, [(), (), (), (), (0,)], [(0,), None, (0, 1), (1,)])

    def test_what_is_met_in_a_run_that_ends_where_it_was(self):
        # The letter leads back at once, so that no new stand is found.
        doors = [door(1, 0, 2, deeds=(("send", 1),)), door(2, 1, 1)]
        asked = row_of_rooms(2, doors)
        self.assertEqual(stands_of(asked), 1)
        self.check(asked, [(), (), (0,)], [(0,), (0,)])
        # And from the last row of several, by its last event.
        doors = [door(1, 0, 2), door(2, 1, 3, deeds=(("send", 0),)), door(3, 0, 1)]
        asked = row_of_rooms(3, doors)
        self.assertEqual(stands_of(asked), 2)
        self.check(asked, [(), (), (0,), (0, 1)], [(0,), (0, 1), (0, 1)])

    def test_what_is_met_by_a_letter(self):
        doors = [door(1, 1, 2, deeds=(("send", 0), ("send", 2))), door(2, 0, 3), door(3, 2, None)]
        self.check(row_of_rooms(3, doors, 3), [(), (), (1,), (1,)], [(1,), (1,), (1,)])
        self.check(row_of_rooms(3, doors, 3, letters=1), [(), (), (1,), (1,)], [(1,), (1,), (1, 2)])
        self.check(row_of_rooms(3, doors, 3, turns=2), [(), (), (1,), (1,)], [(1,), (1,), (1, 2)])
        self.check(row_of_rooms(3, doors, 3, turns=1), [(), (), (1,), (1, 0)], [(1,), (1, 0), (1, 0, 2)])

    def test_what_is_kept_counts(self):
        # The door of the cellar leads back to the shelf where the shelf was left, and to the trunk else.
        back = (11, 1, YES, (("set", 0, 1),), "back", 3)
        doors = (door(4, 0, 5), door(1, 1, 11), back, door(5, 2, 7, ("is", 0, 1)))
        asked = ("inner", 3, 5, (("coins", 2, 0),), EVENTS[:3], HOUSE, doors)
        rooms = [()] * 5 + [(0,)] + [()] * 2 + [None] * 3 + [(1,)] + [None] * 5
        self.check(asked, rooms, [(0,), (1,), (1, 1), (0, 1, 1, 2)])
        asked = put(asked, 6, put(doors, 2, door(11, 1, 3, deeds=back[3])))
        self.check(asked, rooms, [(0,), (1,), (1, 1), (1, 1, 0, 2)])

    def test_a_far_way(self):
        doors = [door(1, 0, None, ("under", 0, 9), (("add", 0, 1),)), door(1, 0, 2)]
        self.check(row_of_rooms(2, doors, boxes=(("coins", 10, 0),)), [(), (), (0,) * 10], [(0,), (0,) * 10])

    def test_as_many_rows_as_are_let_by_and_one_fewer(self):
        doors = [door(1, 0, 2), door(1, 1, 3), door(2, 1, 4), door(3, 1, 5), door(5, 0, 6)]
        asked = row_of_rooms(6, doors)
        expected = [(), (0,), (1,), (0, 1), (1, 1), (1, 1, 0)]
        self.assertEqual(self.told(asked, 6), self.told(asked))
        for most in range(1, 6):
            self.assertEqual(self.refused(asked, most), expected[:most + 1])
        self.assertEqual(self.told(row_of_rooms(2, []), 1), ([(), (), None], []))
        self.assertEqual(self.refused(row_of_rooms(2, [door(1, 1, 2)]), 1), [(), (1,)])

    def test_three_hundred_rows_and_one_more(self):
        def counting(size):
            last = [door(1, 1, 2, ("is", 0, size - 1)), door(2, 1, None, NEVER)]
            doors = [door(1, 0, None, ("under", 0, size - 1), (("add", 0, 1),)), *last]
            return row_of_rooms(2, doors, boxes=(("coins", size, 0),))

        self.assertEqual(stands_of(counting(299)), 300)
        way = (0,) * 298 + (1,)
        self.assertEqual(self.told(counting(299), 300), ([(), (), way], [(0,), way, None]))
        self.assertEqual(self.refused(counting(299), 299), [*[(0,) * length for length in range(299)], way])
        self.assertEqual(self.refused(counting(300), 300), [*[(0,) * length for length in range(300)], (0, *way)])

    def test_nothing_is_told_where_all_was_met_but_the_table_is_refused(self):
        doors = [door(1, 0, 2, deeds=(("add", 0, 1),)), door(2, 0, 1)]
        asked = row_of_rooms(2, doors, boxes=(("coins", 10 ** 30, 0),))
        self.assertEqual(self.refused(asked, 3), [(0,) * length for length in range(4)])
        self.assertEqual(len(self.refused(asked, 300)), 301)

    def test_drawn_charts(self):
        far = counts = 0
        for seed in (*range(300), *LIVELY):
            asked = drawn_chart(seed)
            told = self.told(asked)
            longest = max(map(len, ways(flat(asked, 300)[1]))) + 1
            if len(asked[4]) ** longest > 1500:
                far += 1
                longest = 3
                told = tuple([way if way is None or len(way) < 4 else None for way in part] for part in told)
            self.assertEqual(told, expected_seen(asked, longest))
            counts += len([way for part in told for way in part if way])
        self.assertLess(far, 60)
        self.assertGreater(counts, 1000)

    def test_refusals_of_drawn_charts(self):
        count = 0
        for seed in range(300):
            asked = drawn_chart(seed)
            for most in range(1, min(stands_of(asked), 12)):
                self.assertEqual(len(self.refused(asked, most)), most + 1)
                count += 1
        self.assertGreater(count, 200)

    def test_told_lists_are_the_askers_own(self):
        asked = row_of_rooms(3, [door(1, 0, 2), door(2, 1, 3)])
        for place in (0, 1):
            check_own_list(self, lambda: seen(asked, 300)[place])
        check_own_list(self, lambda: self.refused(asked, 2))
        told = seen(asked, 300)
        told[0].clear()
        self.assertEqual(told[1], [(0,), (0, 1)])


if __name__ == "__main__":
    unittest.main()
