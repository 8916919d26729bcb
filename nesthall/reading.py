"""Reading: guards, deeds and charts out of the texts that are written of them."""

from nesthall.charts import HIGHEST, KINDS, MOST_BOXES, MOST_DEEDS, MOST_DOORS, MOST_EVENTS, MOST_LETTERS
from nesthall.charts import MOST_ROOMS, MOST_TURNS, ORDERS, box_has_fault, deed_has_fault, door_has_fault
from nesthall.charts import end_has_fault, is_in_reach, name_has_fault, names_of, room_has_fault
from nesthall.errors import NoWords, Unread
from nesthall.figures import read_number

# The rows that may come behind a row; the empty text stands for the place ahead of the first one.
BEHIND = {
    "": ("order",),
    "order": ("letters",),
    "letters": ("turns",),
    "turns": ("box", "event", "room"),
    "box": ("box", "event", "room"),
    "event": ("event", "room"),
    "room": ("in", "out", "room", "door"),
    "in": ("in", "out", "room", "door"),
    "out": ("out", "room", "door"),
    "door": ("when", "do", "door"),
    "when": ("do", "door"),
    "do": ("do", "door"),
}
# At which place a room or a door has the deeds of such rows.
DEED_PLACES = {"in": 5, "out": 6, "do": 3}


def need(fits):
    """Refuses the text that is read, with NoWords, where it does not fit."""
    if not fits:
        raise NoWords("the text is not written so")


def words_of(text):
    """The words of the text, a list; each two of them have just one blank between, and there is no other blank."""
    words = text.split(" ")
    need("" not in words)
    return words


def number_named(name, names):
    """The number of the name among the names."""
    need(name in names)
    return names.index(name)


def word_taken(words):
    """The first one of the words, which is taken out of the list."""
    need(len(words) > 0)
    return words.pop(0)


def guard_taken(words, most, boxes, rooms):
    """The guard that the first ones of the words write, of at most this height; they are taken out of the list."""
    need(most > 0)
    kind = word_taken(words)
    if kind == "yes":
        return ("yes",)
    if kind in ("is", "under"):
        box = number_named(word_taken(words), names_of(boxes))
        number = read_number(word_taken(words))
        need(is_in_reach(number))
        return (kind, box, number)
    if kind == "in":
        return ("in", number_named(word_taken(words), names_of(rooms)))
    need(kind in ("not", "both", "either"))
    first = guard_taken(words, most - 1, boxes, rooms)
    if kind == "not":
        return ("not", first)
    return (kind, first, guard_taken(words, most - 1, boxes, rooms))


def read_guard(text, boxes, rooms):
    """The guard that the text writes, among these boxes and rooms; NoWords where it writes none."""
    words = words_of(text)
    guard = guard_taken(words, HIGHEST, boxes, rooms)
    need(len(words) == 0)
    return guard


def deed_of(words, boxes, events):
    """The deed that the words write, which may have a fault."""
    kind = words[0]
    if kind in ("set", "add"):
        need(len(words) == 3)
        return (kind, number_named(words[1], names_of(boxes)), read_number(words[2]))
    need(kind in ("say", "send") and len(words) == 2)
    if kind == "say":
        return ("say", words[1])
    return ("send", number_named(words[1], events))


def read_deed(text, boxes, events):
    """The deed that the text writes, among these boxes and events; NoWords where it writes none."""
    deed = deed_of(words_of(text), boxes, events)
    need(not deed_has_fault(deed, boxes, events))
    return deed


def kind_of(row):
    """What the row tells, by its first word; rooms alone have blanks ahead of it."""
    if row.lstrip(" ").partition(" ")[0] in KINDS:
        return "room"
    return row.partition(" ")[0]


def head_told(kind, words):
    """The order, the letters or the turns that the words of a row tell."""
    need(len(words) == 2)
    if kind == "order":
        need(words[1] in ORDERS)
        return words[1]
    number = read_number(words[1])
    if kind == "letters":
        need(0 <= number <= MOST_LETTERS)
    else:
        need(1 <= number <= MOST_TURNS)
    return number


def box_told(words, ahead):
    """The box that the words of a row tell, behind the boxes ahead."""
    need(len(words) == 4 and len(ahead) < MOST_BOXES)
    box = (words[1], read_number(words[2]), read_number(words[3]))
    need(not box_has_fault(box, ahead))
    return box


def event_told(words, ahead):
    """The name of the event that the words of a row tell, behind the events ahead."""
    need(len(words) == 2 and len(ahead) < MOST_EVENTS)
    need(not name_has_fault(words[1], ahead))
    return words[1]


def marked(words, mark):
    """The word behind the mark, where the words begin with this, else the empty text; and the words behind it."""
    if words[:1] != [mark]:
        return ("", words)
    need(len(words) > 1)
    return (words[1], words[2:])


def room_written(row):
    """The room that the row writes, without deeds; it may have a fault."""
    bare = row.lstrip(" ")
    blanks = len(row) - len(bare)
    words = words_of(bare)
    keeps = marked(words[2:], "keeps")
    lamp = marked(keeps[1], "lamp")
    need(blanks % 2 == 0 and len(words) > 1 and len(lamp[1]) == 0)
    return (words[1], words[0], blanks // 2, keeps[0], lamp[0], (), ())


def room_told(row, draft):
    """The room that the row tells, without deeds, behind the rooms of the draft."""
    ahead = draft.rooms
    room = room_written(row)
    need(len(ahead) < MOST_ROOMS and not room_has_fault(room, ahead, draft.boxes, draft.events))
    need(len(ahead) == 0 or not end_has_fault(ahead[-1], [room]))
    return room


def door_told(words, draft):
    """The door that the words of a row tell, without guard and deeds, behind the doors of the draft."""
    need(len(words) in (4, 5) and len(draft.doors) < MOST_DOORS and draft.may_end())
    names = names_of(draft.rooms)
    goal = number_named(words[4], names) if len(words) == 5 else None
    door = (number_named(words[1], names), number_named(words[2], draft.events), ("yes",), (), words[3], goal)
    need(not door_has_fault(door, draft.boxes, draft.events, draft.rooms))
    return door


def with_guard(door, guard):
    """The door with the guard, which is not that of a door without a row for it."""
    need(guard != ("yes",))
    return door[:2] + (guard,) + door[3:]


def with_deed(thing, place, deed):
    """The room or the door with one more deed at the place."""
    need(len(thing[place]) < MOST_DEEDS)
    return thing[:place] + (thing[place] + (deed,),) + thing[place + 1:]


class Draft:
    """A chart as far as its rows are read."""

    def __init__(self):
        self.last = ""
        self.heads = []
        self.boxes = []
        self.events = []
        self.rooms = []
        self.doors = []

    def add(self, row):
        """Reads one more row; NoWords where it can't stand there."""
        kind = kind_of(row)
        need(kind in BEHIND[self.last])
        if kind == "room":
            self.rooms.append(room_told(row, self))
        elif kind == "door":
            self.doors.append(door_told(words_of(row), self))
        elif kind in ("when", "in", "out", "do"):
            self.add_part(kind, row.partition(" ")[2])
        elif kind == "box":
            self.boxes.append(box_told(words_of(row), self.boxes))
        elif kind == "event":
            self.events.append(event_told(words_of(row), self.events))
        else:
            self.heads.append(head_told(kind, words_of(row)))
        self.last = kind

    def add_part(self, kind, text):
        """Reads the guard of the last door, or one more deed of it or of the last room."""
        things = self.rooms if kind in ("in", "out") else self.doors
        if kind == "when":
            things[-1] = with_guard(things[-1], read_guard(text, self.boxes, self.rooms))
        else:
            things[-1] = with_deed(things[-1], DEED_PLACES[kind], read_deed(text, self.boxes, self.events))

    def may_end(self):
        """Whether there are rooms, and none of them waits for its kids."""
        return len(self.rooms) > 0 and not end_has_fault(self.rooms[-1], [])

    def whole(self):
        """The chart that was read."""
        parts = (tuple(self.boxes), tuple(self.events), tuple(self.rooms), tuple(self.doors))
        return tuple(self.heads) + parts


def read(text):
    """The chart that the text writes; Unread, with the first row that can't stand where it does, if none."""
    draft = Draft()
    rows = text.split("\n")
    for number, row in enumerate(rows, start=1):
        try:
            draft.add(row)
        except NoWords as e:
            raise Unread(number) from e
    if not draft.may_end():
        raise Unread(len(rows) + 1)
    return draft.whole()
