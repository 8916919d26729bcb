"""Charts without faults, and tables, drawn by a row of numbers that is always the same."""

WORDS = ("ash", "bee", "cow", "dew", "elm", "fir", "gnu", "hen", "ivy", "jay", "kid", "log", "mud", "nut", "oak")

# For each of these words another one, with which rows of texts are written.
OWN_WORDS = dict(zip(WORDS, (
    "in", "one", "to", "stay", "lamp", "keeps", "near", "not", "is", "door", "when", "say", "yes", "plain", "both",
)))

# Seeds of charts whose shrunken tables have a dozen rows and more; most charts that are drawn have few stands.
LIVELY = (
    807, 846, 1102, 1286, 1777, 2464, 3677, 3791, 4432, 4796, 5170, 5390, 5505, 5527, 6381, 6461, 7090, 7301, 8223,
    8474, 8531, 8944, 9321, 10235, 10829, 11700, 12122, 12148,
)


class Draw:
    """A row of numbers that looks like chance and hangs on the seed alone."""

    def __init__(self, seed):
        self.state = seed * 7919 + 12345

    def below(self, bound):
        self.state = (self.state * 6364136223846793005 + 1442695040888963407) % 2 ** 64
        return (self.state >> 33) % bound

    def one_of(self, things):
        return things[self.below(len(things))]

    def chance(self, hundredths):
        return self.below(100) < hundredths


def drawn_deed(draw, boxes, events):
    kinds = ["say", "say"] + ["set", "add", "add"] * (len(boxes) > 0) + ["send"] * (len(events) > 0)
    kind = draw.one_of(kinds)
    if kind == "say":
        return ("say", draw.one_of(WORDS))
    if kind == "send":
        return ("send", draw.below(len(events)))
    box = draw.below(len(boxes))
    return (kind, box, draw.below(boxes[box][1]) if kind == "set" else draw.below(9) - 4)


def drawn_deeds(draw, boxes, events, most):
    return tuple(drawn_deed(draw, boxes, events) for _ in range(draw.below(most + 1)))


def drawn_guard(draw, height, boxes, rooms):
    kinds = ["yes"] * 5 + ["in"] + ["is", "under"] * (len(boxes) > 0)
    if height > 1:
        kinds += ["not", "both", "either"]
    kind = draw.one_of(kinds)
    if kind == "yes":
        return ("yes",)
    if kind == "in":
        return ("in", draw.below(len(rooms)))
    if kind in ("is", "under"):
        box = draw.below(len(boxes))
        return (kind, box, draw.below(boxes[box][1] + 2) - 1)
    guards = [drawn_guard(draw, height - 1, boxes, rooms) for _ in range(1 if kind == "not" else 2)]
    return (kind, *guards)


def drawn_rooms(draw, most, boxes, events):
    depths = [0]
    for _ in range(draw.below(most)):
        depths.append(1 + draw.below(min(depths[-1] + 1, 3)))
    rooms = []
    for number, depth in enumerate(depths):
        has_kids = number + 1 < len(depths) and depths[number + 1] > depth
        kind = draw.one_of(("one", "all")) if has_kids else "plain"
        keeps = draw.one_of({"plain": ("",), "one": ("", "near", "deep"), "all": ("", "deep")}[kind])
        lamp = draw.one_of(("", "red", "blue"))
        ins, outs = [drawn_deeds(draw, boxes, events, 2) for _ in range(2)]
        rooms.append((WORDS[number], kind, depth, keeps, lamp, ins, outs))
    return tuple(rooms)


def drawn_door(draw, boxes, events, rooms):
    keepers = [number for number, room in enumerate(rooms) if room[3] != ""]
    way = draw.one_of(["to", "to", "stay"] + ["back", "back"] * (len(keepers) > 0))
    goal = {"to": draw.below(len(rooms)), "stay": None, "back": draw.one_of(keepers or [None])}[way]
    guard = drawn_guard(draw, 3, boxes, rooms)
    return (draw.below(len(rooms)), draw.below(len(events)), guard, drawn_deeds(draw, boxes, events, 3), way, goal)


def drawn_chart(seed, most_rooms=14, most_doors=40):
    """The chart of this seed."""
    draw = Draw(seed)
    boxes = []
    for number in range(draw.below(4)):
        size = 1 + draw.below(4)
        boxes.append((WORDS[number], size, draw.below(size)))
    events = WORDS[:draw.one_of((0, 1, 2, 2, 3, 3, 3, 4))]
    rooms = drawn_rooms(draw, most_rooms, boxes, events)
    count = draw.below(most_doors + 1) if events else 0
    doors = tuple(drawn_door(draw, boxes, events, rooms) for _ in range(count))
    return (draw.one_of(("inner", "outer")), draw.below(4), 1 + draw.below(5), tuple(boxes), events, rooms, doors)


def renamed(part):
    """The chart, or a part of it, with words of the texts' own in the place of its words."""
    if isinstance(part, tuple):
        return tuple(renamed(inner) for inner in part)
    return OWN_WORDS.get(part, part)


def drawn_table(seed, most_rows=6, most_events=3):
    """The table of this seed; few words and lamps, so that many rows of it look alike at first."""
    draw = Draw(seed)
    count, events = 1 + draw.below(most_rows), draw.below(most_events + 1)
    unlike = draw.one_of((0, 5, 20, 60))
    rows = []
    for _ in range(count):
        lamps = draw.one_of((("red",), ("red", "blue"), ("blue", "red"))) if draw.chance(unlike) else ()
        moves = []
        for _ in range(events):
            words = draw.one_of((("ash",), ("ash", "bee"), ("bee", "ash"))) if draw.chance(unlike) else ()
            moves.append((words, draw.below(count)))
        rows.append((lamps, tuple(moves)))
    return rows
