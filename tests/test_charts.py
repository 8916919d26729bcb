import itertools
import string
import unittest

from nesthall.charts import faults

MOST = 10 ** 30
FAR = 10 ** 299
YES = ("yes",)
BOXES = (("coins", 5, 0), ("steps", MOST, MOST - 1), ("bell", 1, 0))
EVENTS = ("knock", "ring")
ROOMS = (
    ("house", "one", 0, "deep", "", (("say", "welcome"),), ()),
    ("hall", "all", 1, "deep", "red", (), (("send", 1), ("set", 0, 4))),
    ("nook", "plain", 2, "", "", (), ()),
    ("attic", "one", 2, "near", "green", (("add", 1, -MOST),), (("add", 1, MOST),)),
    ("trunk", "plain", 3, "", "red", (), ()),
    ("shelf", "plain", 3, "", "", (), ()),
    ("cellar", "plain", 1, "", "", (), ()),
)
DOORS = (
    (2, 0, YES, (), "to", 6),
    (6, 1, ("both", ("is", 0, 3), ("not", ("in", 6))), (("say", "mind"), ("send", 0)), "back", 3),
    (0, 0, ("under", 1, MOST), (("set", 1, MOST - 1),), "stay", None),
)
NAMES = [one + other for one in string.ascii_lowercase for other in string.ascii_lowercase]
WRONG_WORDS = ("", "Door", "a b", "a1", "-", "\n", "door\n", "abcdefghijklm", "~")


def chart(order="inner", letters=3, turns=5, boxes=BOXES, events=EVENTS, rooms=ROOMS, doors=DOORS):
    """A chart without faults, but for what is told otherwise."""
    return (order, letters, turns, boxes, events, rooms, doors)


def put(row, place, thing):
    """The row with the thing at the place."""
    return row[:place] + (thing,) + row[place + 1:]


def with_box(box, boxes=BOXES):
    """A chart in which box 0 is this one, and which names no box."""
    return chart(boxes=put(boxes, 0, box), rooms=(plain_room(),), doors=())


def plain_room(name="yard", depth=0, lamp="", ins=(), outs=()):
    return (name, "plain", depth, "", lamp, ins, outs)


def with_room(room, number=2):
    return chart(rooms=put(ROOMS, number, room))


def with_ins(ins):
    """A chart in which room 2 has these deeds at going in."""
    return with_room(put(ROOMS[2], 5, ins))


def with_outs(outs):
    return with_room(put(ROOMS[2], 6, outs))


def with_door(place, thing):
    """A chart in which the thing stands at the place of door 1."""
    return chart(doors=put(DOORS, 1, put(DOORS[1], place, thing)))


def with_goal(way, goal):
    return chart(doors=put(DOORS, 1, DOORS[1][:4] + (way, goal)))


def beside(count):
    """So many rooms, the kids all beside each other, each of which may stand in a chart."""
    first = ("first", "all" if count > 1 else "plain", 0, "", "", (), ())
    return (first,) + tuple(plain_room(NAMES[k], 1) for k in range(count - 1))


def chain(deepest):
    """Rooms in one another down to a plain one of the told depth."""
    halls = tuple((NAMES[k], "one", k, "", "", (), ()) for k in range(deepest))
    return halls + (plain_room(NAMES[deepest], deepest),)


def bare(rooms):
    """A chart with these rooms and nothing else."""
    return chart(boxes=(), events=(), rooms=rooms, doors=())


def tower(kind, side, size, leaf=YES):
    """A guard of the told height with the leaf at its very bottom."""
    guard = leaf
    for _ in range(size - 1):
        if kind == "not":
            guard = ("not", guard)
        else:
            guard = (kind, guard, YES) if side == 1 else (kind, YES, guard)
    return guard


class Asking(unittest.TestCase):
    def told(self, asked, expected):
        with self.subTest(asked):
            self.assertEqual(faults(asked), expected)


class Faultless(Asking):
    def test_charts_without_faults(self):
        self.told(chart(), [])
        self.told(bare((plain_room(),)), [])
        self.told(bare(beside(2)), [])

    def test_a_chart_at_all_its_upper_bounds(self):
        boxes = tuple((name, MOST, MOST - 1) for name in NAMES[:6])
        deeds = (
            ("say", "abcdefghijkl"), ("say", "z"), ("set", 5, 0), ("set", 5, MOST - 1),
            ("add", 5, MOST), ("add", 5, -MOST), ("send", 7), ("send", 0),
        )
        deep = tuple((NAMES[k], "one", k, "near", "abcdefghijkl", deeds, deeds) for k in range(12))
        rooms = deep + tuple(plain_room(NAMES[k], 12, "z", deeds, deeds) for k in range(12, 40))
        guard = tower("both", 2, 6, ("under", 5, -MOST))
        doors = tuple((k % 40, k % 8, guard, deeds, "to", 39 - k % 40) for k in range(57)) + (
            (39, 7, guard, deeds, "back", 11), (0, 0, guard, deeds, "stay", None), (39, 7, YES, (), "back", 0),
        )
        for order, letters, turns in (("outer", 12, 20), ("inner", 0, 1)):
            self.told((order, letters, turns, boxes, tuple(NAMES[:8]), rooms, doors), [])

    def test_the_same_name_for_a_box_an_event_and_a_room_is_none(self):
        boxes = (("one", 1, 0),)
        rooms = (("one", "one", 0, "", "one", (), ()), plain_room("all", 1, "one"), plain_room("in", 1, "one"))
        self.told(chart(boxes=boxes, events=("one", "all"), rooms=rooms, doors=()), [])

    def test_the_same_door_twice_is_none(self):
        self.told(chart(doors=DOORS + DOORS), [])


class Settings(Asking):
    def test_order(self):
        for order in ("inner", "outer"):
            self.told(chart(order=order), [])
        for order in ("", "Inner", "inner ", "innerouter", "in", "plain"):
            self.told(chart(order=order), [("order", 0)])

    def test_letters(self):
        for letters in range(-2, 16):
            self.told(chart(letters=letters), [] if 0 <= letters <= 12 else [("letters", 0)])
        for letters in (-FAR, FAR):
            self.told(chart(letters=letters), [("letters", 0)])

    def test_turns(self):
        for turns in range(-2, 24):
            self.told(chart(turns=turns), [] if 1 <= turns <= 20 else [("turns", 0)])
        for turns in (-FAR, FAR):
            self.told(chart(turns=turns), [("turns", 0)])


class Boxes(Asking):
    def test_how_many(self):
        for count in range(10):
            boxes = tuple((NAMES[k], 2, 1) for k in range(count))
            asked = chart(boxes=boxes, rooms=(plain_room(),), doors=())
            self.told(asked, [] if count <= 6 else [("boxes", 0)])

    def test_names(self):
        for name in ("a", "abcdefghijkl", "box"):
            self.told(with_box((name, 5, 0)), [])
        for name in WRONG_WORDS:
            self.told(with_box((name, 5, 0)), [("box", 0)])

    def test_names_that_come_again(self):
        boxes = tuple((name, 5, 0) for name in ("a", "b", "a", "a", "c", "b"))
        self.told(chart(boxes=boxes, rooms=(plain_room(),), doors=()), [("box", 2), ("box", 3), ("box", 5)])

    def test_a_name_of_a_box_with_a_fault_counts(self):
        boxes = (("a", 0, 0), ("A", 5, 0), ("a", 5, 0), ("A", 5, 0))
        expected = [("box", 0), ("box", 1), ("box", 2), ("box", 3)]
        self.told(chart(boxes=boxes, rooms=(plain_room(),), doors=()), expected)

    def test_sizes(self):
        for size in (1, 2, MOST - 1, MOST):
            self.told(with_box(("a", size, 0)), [])
        for size in (-FAR, -MOST, -1, 0, MOST + 1, FAR):
            self.told(with_box(("a", size, 0)), [("box", 0)])

    def test_starts(self):
        for size in (1, 2, 5, MOST):
            for start in (0, size // 2, size - 1):
                self.told(with_box(("a", size, start)), [])
            for start in (-FAR, -1, size, size + 1, FAR):
                self.told(with_box(("a", size, start)), [("box", 0)])

    def test_sizes_and_starts_that_are_both_wrong(self):
        for size, start in ((0, 0), (0, -1), (-5, -6), (-5, -5), (MOST + 1, MOST), (MOST + 2, MOST + 1), (FAR, FAR)):
            self.told(with_box(("a", size, start)), [("box", 0)])

    def test_a_box_with_several_faults_is_told_once(self):
        self.told(with_box(("", 0, -1)), [("box", 0)])

    def test_faults_of_boxes_beyond_the_bound_are_told_too(self):
        boxes = tuple((NAMES[k], 2, 1) for k in range(7)) + (("aa", 2, 1), ("x", 2, 2), ("y", 2, 1))
        expected = [("boxes", 0), ("box", 7), ("box", 8)]
        self.told(chart(boxes=boxes, rooms=(plain_room(),), doors=()), expected)


class Events(Asking):
    def with_events(self, events):
        return chart(events=events, rooms=(plain_room(),), doors=())

    def test_how_many(self):
        for count in range(12):
            self.told(self.with_events(tuple(NAMES[:count])), [] if count <= 8 else [("events", 0)])

    def test_names(self):
        for name in WRONG_WORDS:
            self.told(self.with_events(("knock", name, "ring")), [("event", 1)])

    def test_names_that_come_again(self):
        self.told(self.with_events(("a", "b", "a", "a", "c", "b")), [("event", 2), ("event", 3), ("event", 5)])
        self.told(self.with_events(("A", "b", "A")), [("event", 0), ("event", 2)])

    def test_faults_of_events_beyond_the_bound_are_told_too(self):
        expected = [("events", 0), ("event", 8), ("event", 10)]
        self.told(self.with_events(tuple(NAMES[:8]) + ("", "x", "aa")), expected)


class RoomNames(Asking):
    def test_how_many(self):
        self.told(chart(rooms=(), doors=()), [("rooms", 0)])
        for count in (1, 2, 39, 40, 41, 60):
            self.told(bare(beside(count)), [] if count <= 40 else [("rooms", 0)])

    def test_names(self):
        for number in range(7):
            for name in WRONG_WORDS:
                self.told(with_room(put(ROOMS[number], 0, name), number), [("room", number)])

    def test_names_that_come_again(self):
        rooms = tuple(put(room, 0, name) for room, name in zip(ROOMS, ("a", "b", "a", "a", "c", "b", "A")))
        self.told(chart(rooms=rooms), [("room", 2), ("room", 3), ("room", 5), ("room", 6)])

    def test_faults_of_rooms_beyond_the_bound_are_told_too(self):
        rooms = beside(40) + (plain_room("first", 1), plain_room("", 1), plain_room("x", 1))
        self.told(bare(rooms), [("rooms", 0), ("room", 40), ("room", 41)])

    def test_lamps(self):
        for lamp in ("", "a", "abcdefghijkl", "nook"):
            self.told(with_room(put(ROOMS[2], 4, lamp)), [])
        for lamp in WRONG_WORDS[1:]:
            self.told(with_room(put(ROOMS[2], 4, lamp)), [("room", 2)])

    def test_a_room_with_several_faults_is_told_once(self):
        self.told(with_room(("", "nothing", 9, "far", "-", (("say", ""),), (("send", 9),))), [("room", 2)])


class RoomKinds(Asking):
    def test_kinds(self):
        for kind in ("", "Plain", "one ", "any", "near"):
            self.told(with_room(put(ROOMS[2], 1, kind)), [("room", 2)])
            self.told(with_room(put(put(ROOMS[1], 3, ""), 1, kind), 1), [("room", 1)])

    def test_a_plain_room_ahead_of_a_deeper_one(self):
        self.told(with_room(("hall", "plain", 1, "", "", (), ()), 1), [("room", 1)])
        self.told(bare((plain_room("a"), plain_room("b", 1))), [("room", 0)])

    def test_a_plain_room_ahead_of_one_that_is_not_deeper(self):
        for depth in (1, 2, 3):
            rooms = chain(3) + (plain_room("x", depth),)
            self.told(bare(rooms), [])

    def test_a_one_or_all_that_is_last(self):
        for kind in ("one", "all"):
            self.told(with_room(put(ROOMS[6], 1, kind), 6), [("room", 6)])
            self.told(bare((put(plain_room(), 1, kind),)), [("room", 0)])

    def test_a_one_or_all_ahead_of_a_room_that_is_not_deeper(self):
        for kind in ("one", "all"):
            self.told(with_room(put(ROOMS[2], 1, kind), 2), [("room", 2)])
            self.told(with_room(put(ROOMS[5], 1, kind), 5), [("room", 5)])

    def test_a_one_or_all_that_has_kids(self):
        for kinds in itertools.product(("one", "all"), repeat=2):
            rooms = tuple((NAMES[k], kinds[k], k, "", "", (), ()) for k in range(2)) + (plain_room("x", 2),)
            self.told(bare(rooms), [])

    def test_deeper_is_told_by_the_depths_as_they_stand(self):
        self.told(bare((plain_room("a", 5), plain_room("b", 5))), [("room", 0)])
        self.told(bare((plain_room("a", -4), plain_room("b", -3))), [("room", 0), ("room", 1)])
        self.told(bare((("a", "one", 0, "", "", (), ()), plain_room("b", FAR))), [("room", 1)])
        self.told(bare((("a", "one", -FAR, "", "", (), ()), plain_room("b", -1))), [("room", 0), ("room", 1)])
        self.told(bare((("a", "one", 0, "", "", (), ()), plain_room("b", 0))), [("room", 0), ("room", 1)])


class RoomDepths(Asking):
    def test_of_the_first_room(self):
        for depth in (-FAR, -1, 1, 2, 12, 13, FAR):
            self.told(bare((plain_room("a", depth),)), [("room", 0)])

    def test_of_another_room(self):
        for depth in range(-2, 8):
            # The room ahead is plain, so one that is deeper is a fault of that one, too.
            expected = [("room", 3)] if depth > 3 else []
            expected += [] if 1 <= depth <= 4 else [("room", 4)]
            self.told(bare(chain(3) + (plain_room("x", depth),)), expected)

    def test_one_more_than_that_of_the_room_just_ahead(self):
        for ahead, depth, expected in (
            (1, 1, [("room", 1)]),
            (1, 2, []),
            (1, 3, [("room", 2)]),
            (1, 0, [("room", 1), ("room", 2)]),
            (1, -1, [("room", 1), ("room", 2)]),
        ):
            first = ("a", "all", 0, "", "", (), ())
            rooms = (first, ("b", "all", ahead, "", "", (), ()), plain_room("c", depth))
            self.told(bare(rooms), expected)

    def test_the_depth_ahead_counts_also_where_it_has_a_fault(self):
        rooms = (
            ("a", "all", 5, "", "", (), ()), ("b", "all", 6, "", "", (), ()), ("c", "all", 8, "", "", (), ()),
            ("d", "all", 9, "", "", (), ()), plain_room("e", 10), plain_room("f", 0), plain_room("g", 1),
        )
        self.told(bare(rooms), [("room", 0), ("room", 2), ("room", 5)])

    def test_at_most_twelve(self):
        for deepest in (11, 12, 13, 14):
            self.told(bare(chain(deepest)), [("room", k) for k in range(13, deepest + 1)])

    def test_far_depths(self):
        for depth in (-FAR, -13, 13, FAR):
            rooms = (("a", "all", 0, "", "", (), ()), plain_room("b", 1), plain_room("c", depth))
            self.told(bare(rooms), [("room", 1), ("room", 2)] if depth > 0 else [("room", 2)])


class RoomKeeps(Asking):
    def test_each_kind_with_each_keeps(self):
        allowed = [("plain", ""), ("one", ""), ("one", "near"), ("one", "deep"), ("all", ""), ("all", "deep")]
        for kind in ("plain", "one", "all"):
            for keeps in ("", "near", "deep", "Near", "far", "deep ", "one"):
                # Behind the room there are kids where it may have them, else none.
                rooms = (("a", kind, 0, keeps, "", (), ()),) + (() if kind == "plain" else (plain_room("b", 1),))
                self.told(bare(rooms), [] if (kind, keeps) in allowed else [("room", 0)])


class Deeds(Asking):
    PLACES = (
        (with_ins, ("room", 2)),
        (with_outs, ("room", 2)),
        (lambda deeds: with_door(3, deeds), ("door", 1)),
    )

    def each(self, deed, right):
        """The deed in each place, by itself, ahead of others and behind them."""
        for place, fault in self.PLACES:
            for deeds in ((deed,), (deed, ("say", "a")), (("say", "a"),) * 7 + (deed,)):
                self.told(place(deeds), [] if right else [fault])

    def test_how_many(self):
        for place, fault in self.PLACES:
            for count in range(12):
                self.told(place((("say", "a"),) * count), [] if count <= 8 else [fault])

    def test_those_at_going_in_and_out_are_counted_apart(self):
        deeds = (("say", "a"),) * 8
        self.told(with_room(plain_room("x", 2, "", deeds, deeds)), [])
        self.told(with_room(plain_room("x", 2, "", deeds + deeds[:1], ())), [("room", 2)])
        self.told(with_room(plain_room("x", 2, "", (), deeds + deeds[:1])), [("room", 2)])

    def test_says(self):
        for word in ("a", "abcdefghijkl"):
            self.each(("say", word), True)
        for word in WRONG_WORDS:
            self.each(("say", word), False)

    def test_sends(self):
        for event in (0, 1):
            self.each(("send", event), True)
        for event in (-FAR, -2, -1, 2, 3, FAR):
            self.each(("send", event), False)

    def test_sets(self):
        for box, size in enumerate((5, MOST, 1)):
            for number in sorted({0, size // 2, size - 1}):
                self.each(("set", box, number), True)
            for number in (-FAR, -1, size, size + 1, FAR):
                self.each(("set", box, number), False)

    def test_adds(self):
        for box in (0, 1, 2):
            for number in (-MOST, 1 - MOST, -1, 0, 1, 5, MOST - 1, MOST):
                self.each(("add", box, number), True)
            for number in (-FAR, -MOST - 1, MOST + 1, FAR):
                self.each(("add", box, number), False)

    def test_boxes_that_are_none(self):
        for box in (-FAR, -3, -1, 3, 4, FAR):
            self.each(("set", box, 0), False)
            self.each(("add", box, 0), False)

    def test_where_there_are_no_boxes_or_events(self):
        for deed in (("set", 0, 0), ("add", 0, 0), ("send", 0)):
            room = plain_room("a", 0, "", (deed,))
            self.told(bare((room,)), [("room", 0)])

    def test_boxes_and_events_beyond_the_bounds_are_numbered_as_the_others(self):
        boxes = tuple((NAMES[k], 2, 1) for k in range(7))
        events = tuple(NAMES[:9])
        for deed, wrong in (
            (("set", 6, 1), False), (("add", 6, 1), False), (("send", 8), False),
            (("set", 7, 1), True), (("add", 7, 1), True), (("send", 9), True),
        ):
            room = plain_room("a", 0, "", (deed,))
            expected = [("boxes", 0), ("events", 0)] + ([("room", 0)] if wrong else [])
            self.told(chart(boxes=boxes, events=events, rooms=(room,), doors=()), expected)

    def test_a_box_whose_size_has_a_fault(self):
        for size, right, wrong in (
            (0, (), (-1, 0, 1)),
            (-3, (), (-4, -3, -2, -1, 0)),
            (MOST + 5, (0, MOST, MOST + 4), (-1, MOST + 5)),
        ):
            for number in right + wrong:
                room = plain_room("a", 0, "", (("set", 0, number),))
                asked = chart(boxes=(("a", size, 0),), events=(), rooms=(room,), doors=())
                self.told(asked, [("box", 0)] + ([("room", 0)] if number in wrong else []))
            room = plain_room("a", 0, "", (("add", 0, MOST),), (("add", 0, -MOST),))
            self.told(chart(boxes=(("a", size, 0),), events=(), rooms=(room,), doors=()), [("box", 0)])

    def test_an_event_and_a_box_with_faults_may_be_named(self):
        room = plain_room("a", 0, "", (("set", 1, 1), ("send", 1)))
        asked = chart(boxes=(("b", 2, 0), ("b", 2, 9)), events=("b", "b"), rooms=(room,), doors=())
        self.told(asked, [("box", 1), ("event", 1)])


class Doors(Asking):
    def test_how_many(self):
        for count in (0, 1, 59, 60, 61, 100):
            self.told(chart(doors=DOORS[:1] * count), [] if count <= 60 else [("doors", 0)])

    def test_faults_of_doors_beyond_the_bound_are_told_too(self):
        wrong = put(DOORS[0], 0, 7)
        expected = [("doors", 0), ("door", 60), ("door", 62)]
        self.told(chart(doors=DOORS[:1] * 60 + (wrong, DOORS[1], wrong)), expected)

    def test_rooms(self):
        for room in range(7):
            self.told(with_door(0, room), [])
        for room in (-FAR, -7, -1, 7, 8, FAR):
            self.told(with_door(0, room), [("door", 1)])

    def test_events(self):
        for event in (0, 1):
            self.told(with_door(1, event), [])
        for event in (-FAR, -2, -1, 2, 3, FAR):
            self.told(with_door(1, event), [("door", 1)])

    def test_the_way_to(self):
        for goal in range(7):
            self.told(with_goal("to", goal), [])
        for goal in (-FAR, -7, -1, 7, 8, FAR, None):
            self.told(with_goal("to", goal), [("door", 1)])

    def test_the_way_back(self):
        for goal in range(7):
            self.told(with_goal("back", goal), [] if ROOMS[goal][3] else [("door", 1)])
        for goal in (-FAR, -7, -1, 7, 8, FAR, None):
            self.told(with_goal("back", goal), [("door", 1)])

    def test_the_way_back_to_a_room_whose_keeps_has_a_fault(self):
        rooms = put(ROOMS, 2, put(ROOMS[2], 3, "far"))
        doors = ((6, 0, YES, (), "back", 2), (6, 0, YES, (), "back", 4))
        self.told(chart(rooms=rooms, doors=doors), [("room", 2), ("door", 1)])

    def test_the_way_stay(self):
        self.told(with_goal("stay", None), [])
        for goal in (-FAR, -1, 0, 3, 7, FAR):
            self.told(with_goal("stay", goal), [("door", 1)])

    def test_ways_that_are_none(self):
        for way in ("", "To", "to ", "away", "near", "stayed"):
            for goal in (-1, 0, 3, 7, FAR, None):
                self.told(with_goal(way, goal), [("door", 1)])

    def test_a_door_with_several_faults_is_told_once(self):
        door = (9, 9, ("not", ("in", 9)), (("say", ""), ("send", 9)), "away", 9)
        self.told(chart(doors=(DOORS[0], door, DOORS[2])), [("door", 1)])

    def test_where_there_is_no_room_at_all(self):
        expected = [("rooms", 0), ("door", 0), ("door", 1), ("door", 2)]
        self.told(chart(rooms=()), expected)
        self.told(chart(rooms=(), doors=((0, 0, YES, (), "back", 0), (-1, 0, YES, (), "to", -1))), expected[:3])

    def test_rooms_and_events_with_faults_or_beyond_the_bounds_are_numbered_as_the_others(self):
        rooms = beside(41) + (plain_room("", 1),)
        events = tuple(NAMES[:9]) + ("aa",)
        doors = (
            (41, 9, ("in", 41), (), "to", 41), (40, 8, ("in", 40), (), "to", 40),
            (42, 9, YES, (), "stay", None), (41, 10, YES, (), "stay", None),
            (41, 9, ("in", 42), (), "stay", None), (41, 9, YES, (), "to", 42),
        )
        expected = [("events", 0), ("event", 9), ("rooms", 0), ("room", 41)] + [("door", k) for k in (2, 3, 4, 5)]
        self.told(chart(boxes=(), events=events, rooms=rooms, doors=doors), expected)


class Guards(Asking):
    def test_heights(self):
        for size in range(1, 21):
            for kind in ("not", "both", "either"):
                for side in (1, 2):
                    guard = tower(kind, side, size)
                    self.told(with_door(2, guard), [] if size <= 6 else [("door", 1)])

    def test_numbers(self):
        for kind in ("is", "under"):
            for number in (-MOST, 1 - MOST, -1, 0, 7, MOST - 1, MOST):
                self.told(with_door(2, (kind, 0, number)), [])
            for number in (-FAR, -MOST - 1, MOST + 1, FAR):
                self.told(with_door(2, (kind, 0, number)), [("door", 1)])

    def test_boxes(self):
        for kind in ("is", "under"):
            for box in (0, 1, 2):
                self.told(with_door(2, (kind, box, 1)), [])
            for box in (-FAR, -3, -1, 3, 4, FAR):
                self.told(with_door(2, (kind, box, 1)), [("door", 1)])

    def test_rooms(self):
        for room in range(7):
            self.told(with_door(2, ("in", room)), [])
        for room in (-FAR, -7, -1, 7, 8, FAR):
            self.told(with_door(2, ("in", room)), [("door", 1)])

    def test_what_is_wrong_far_down(self):
        for leaf, right in (
            (("is", 2, MOST), True), (("under", 0, -MOST), True), (("in", 6), True),
            (("is", 2, MOST + 1), False), (("under", 0, -MOST - 1), False),
            (("is", 3, 0), False), (("under", -1, 0), False), (("in", 7), False), (("in", -1), False),
        ):
            for kind in ("not", "both", "either"):
                for side in (1, 2):
                    for size in range(1, 7):
                        guard = tower(kind, side, size, leaf)
                        self.told(with_door(2, guard), [] if right else [("door", 1)])

    def test_one_wrong_guard_among_right_ones(self):
        right = ("both", ("is", 0, 1), ("in", 0))
        for wrong in (("is", 9, 1), ("under", 0, FAR), ("in", 9)):
            for guard in (("both", right, wrong), ("either", wrong, right), ("both", right, ("either", wrong, YES))):
                self.told(with_door(2, guard), [("door", 1)])

    def test_a_box_is_no_room_and_a_room_no_box(self):
        self.told(with_door(2, ("is", 5, 0)), [("door", 1)])
        room = plain_room()
        doors = ((0, 0, ("in", 1), (), "stay", None), (0, 0, ("is", 1, 0), (), "stay", None))
        self.told(chart(rooms=(room,), doors=doors), [("door", 0)])

    def test_a_box_whose_size_has_a_fault(self):
        for size in (0, -1, MOST + 1):
            doors = ((0, 0, ("is", 0, MOST), (), "stay", None), (0, 0, ("under", 0, -MOST), (), "stay", None))
            self.told(chart(boxes=(("a", size, 0),), rooms=(plain_room(),), doors=doors), [("box", 0)])

    def test_a_box_beyond_the_bound_may_be_asked(self):
        boxes = tuple((NAMES[k], 2, 1) for k in range(7))
        doors = ((0, 0, ("is", 6, 0), (), "stay", None), (0, 0, ("under", 7, 0), (), "stay", None))
        self.told(chart(boxes=boxes, rooms=(plain_room(),), doors=doors), [("boxes", 0), ("door", 1)])

    def test_a_guard_says_no_more_than_it_can_whatever_the_box(self):
        self.told(with_door(2, ("is", 2, 99)), [])
        self.told(with_door(2, ("under", 2, -99)), [])


class Order(Asking):
    def test_all_at_once(self):
        boxes = tuple(("a", 0, 0) for _ in range(7))
        events = ("A",) * 9
        rooms = tuple(("a", "none", 5, "", "", (), ()) for _ in range(41))
        doors = ((-1, 0, YES, (), "stay", None),) * 61
        expected = [("order", 0), ("letters", 0), ("turns", 0)]
        for many, one, things in (
            ("boxes", "box", boxes), ("events", "event", events), ("rooms", "room", rooms), ("doors", "door", doors)
        ):
            expected += [(many, 0)] + [(one, k) for k in range(len(things))]
        self.told(("", -1, 0, boxes, events, rooms, doors), expected)

    def test_each_two_of_the_single_faults(self):
        rooms = put(put(ROOMS, 2, put(ROOMS[2], 0, "")), 5, put(ROOMS[5], 4, "-"))
        changes = (
            ({"order": ""}, [("order", 0)]),
            ({"letters": 13}, [("letters", 0)]),
            ({"turns": 21}, [("turns", 0)]),
            ({"boxes": BOXES + (("coins", 1, 0),)}, [("box", 3)]),
            ({"events": EVENTS + ("",)}, [("event", 2)]),
            ({"rooms": rooms}, [("room", 2), ("room", 5)]),
            ({"doors": (put(DOORS[0], 4, ""), DOORS[1], put(DOORS[2], 5, 0))}, [("door", 0), ("door", 2)]),
        )
        for one, other in itertools.combinations(changes, 2):
            # Told the other way round, the order is still that of the parts of a chart.
            self.told(chart(**{**other[0], **one[0]}), one[1] + other[1])


class Told(unittest.TestCase):
    def test_the_kinds_of_what_is_told(self):
        told = faults(chart(order="", boxes=BOXES + (("", 0, 0),)))
        self.assertIs(type(told), list)
        self.assertEqual(told, [("order", 0), ("box", 3)])
        for fault in told:
            self.assertIs(type(fault), tuple)
            self.assertEqual([type(part) for part in fault], [str, int])

    def test_a_told_list_is_the_askers_own(self):
        for asked, expected in ((chart(), []), (chart(order=""), [("order", 0)])):
            told = faults(asked)
            told.append(("turns", 0))
            told[0] = ("letters", 0)
            self.assertEqual(faults(asked), expected)
            self.assertEqual(faults(chart()), [])

    def test_nothing_handed_in_is_changed(self):
        asked = chart(order="", turns=0)
        faults(asked)
        self.assertEqual(asked, chart(order="", turns=0))


if __name__ == "__main__":
    unittest.main()
