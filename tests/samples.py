"""What several tests ask about: a house of rooms, small nestings of each form, how rooms lie in them, and tables."""

import itertools

HOUSE = (
    ("house", "one", 0, "deep", "", (), ()),
    ("hall", "all", 1, "deep", "red", (), ()),
    ("nook", "plain", 2, "", "", (), ()),
    ("attic", "one", 2, "near", "green", (), ()),
    ("trunk", "plain", 3, "", "red", (), ()),
    ("shelf", "plain", 3, "", "", (), ()),
    ("loft", "one", 2, "near", "", (), ()),
    ("beam", "plain", 3, "", "blue", (), ()),
    ("nest", "all", 3, "deep", "", (), ()),
    ("egg", "plain", 4, "", "white", (), ()),
    ("twig", "plain", 4, "", "white", (), ()),
    ("cellar", "plain", 1, "", "", (), ()),
    ("garden", "all", 1, "", "green", (), ()),
    ("pond", "one", 2, "deep", "", (), ()),
    ("frog", "plain", 3, "", "", (), ()),
    ("newt", "plain", 3, "", "", (), ()),
    ("shed", "plain", 2, "", "", (), ()),
)
HALL = (0, 1, 2, 3, 4, 6, 7)
FULL = (0, 1, 2, 3, 5, 6, 8, 9, 10)
GARDEN = (0, 12, 13, 15, 16)
# All full openings of the house.
OPENINGS = (
    HALL, FULL, (0, 1, 2, 3, 5, 6, 7), (0, 1, 2, 3, 4, 6, 8, 9, 10), (0, 11), (0, 12, 13, 14, 16), GARDEN,
)
NOTHING = ((),) * 17


def put(row, place, thing):
    """The row with the thing at the place."""
    return row[:place] + (thing,) + row[place + 1:]


def rooms_of(depths, kinds=None, keeps=None):
    """Rooms of these depths and, where they are told, of these kinds, that keep so."""
    count = len(depths)
    told = zip(kinds or ["all"] * count, depths, keeps or [""] * count)
    return tuple(("room", *parts, "", (), ()) for parts in told)


def chain(kind, size):
    """So many rooms in one another."""
    return rooms_of(range(size), [kind] * (size - 1) + ["plain"])


def all_depths(size):
    """Each row of depths that so many rooms can have."""
    rows = [[0]]
    for _ in range(size - 1):
        rows = [row + [depth] for row in rows for depth in range(1, row[-1] + 2)]
    return rows


def nestings(size):
    """Each nesting of so many rooms, in each choice of kinds."""
    for depths in all_depths(size):
        has_kids = [after > depth for depth, after in zip(depths, depths[1:] + [0])]
        for kinds in itertools.product(*[("one", "all") if has else ("plain",) for has in has_kids]):
            yield rooms_of(depths, kinds)


def table(moves, lamps=None, words=None):
    """A table with these moves; lamps tells those of some rows, words what some rows say by some events."""
    lit, spoken = lamps or {}, words or {}
    rows = []
    for row, ends in enumerate(moves):
        steps = tuple((spoken.get((row, event), ()), to) for event, to in enumerate(ends))
        rows.append((lit.get(row, ()), steps))
    return rows


def above(rooms, room):
    """The rooms in which the room lies, the deepest one first."""
    told, depth = [], rooms[room][2]
    for other in range(room - 1, -1, -1):
        if rooms[other][2] < depth:
            told.append(other)
            depth = rooms[other][2]
    return told


def check_list_of_numbers(case, told, expected):
    """What is told is just this list, of whole numbers that are no truths."""
    case.assertEqual(told, expected)
    case.assertIs(type(told), list)
    case.assertEqual({type(number) for number in told} - {int}, set())


def check_own_list(case, ask):
    """A list that is told is the asker's own: a change to it changes none that was told or is told later."""
    first = ask()
    own = list(first)
    second = ask()
    first.append(99)
    first.reverse()
    case.assertEqual(second, own)
    case.assertEqual(ask(), own)


def check_whole(case, told):
    """A stand and a record, of the kinds that are promised, with whole numbers in them that are no truths."""
    stand, record = told
    case.assertEqual([type(told), type(stand), type(record)], [tuple, tuple, list])
    case.assertEqual([type(part) for part in (*stand, *stand[2], *record)], [tuple] * (3 + len(stand[2]) + len(record)))
    numbers = [number for row in (stand[0], stand[1], *stand[2], *[part[1:] for part in record]) for number in row]
    case.assertEqual({type(number) for number in numbers} - {int, str}, set())


def check_tuples(case, told):
    """What is told is tuples throughout, with texts, None and whole numbers in them that are no truths."""
    case.assertIs(type(told), tuple)
    for part in told:
        if type(part) is not tuple:
            case.assertIn(type(part), (int, str, type(None)))
        else:
            check_tuples(case, part)
