"""Writing: guards, deeds and charts told as texts."""

from nesthall.figures import written
from nesthall.guards import guards_within


def guard_text(guard, boxes, rooms):
    """The text of the guard, with the names of these boxes and rooms."""
    kind = guard[0]
    if kind in ("is", "under"):
        words = [boxes[guard[1]][0], written(guard[2])]
    elif kind == "in":
        words = [rooms[guard[1]][0]]
    else:
        words = [guard_text(within, boxes, rooms) for within in guards_within(guard)]
    return " ".join([kind] + words)


def deed_text(deed, boxes, events):
    """The text of the deed, with the names of these boxes and events."""
    kind = deed[0]
    if kind == "say":
        words = [deed[1]]
    elif kind == "send":
        words = [events[deed[1]]]
    else:
        words = [boxes[deed[1]][0], written(deed[2])]
    return " ".join([kind] + words)


def head_rows(chart):
    """The rows of the order, the letters, the turns, the boxes and the events, a list."""
    rows = ["order " + chart[0], "letters " + written(chart[1]), "turns " + written(chart[2])]
    rows.extend([" ".join(["box", box[0], written(box[1]), written(box[2])]) for box in chart[3]])
    rows.extend(["event " + name for name in chart[4]])
    return rows


def deed_rows(chart, mark, deeds):
    """The rows of the deeds, each with the mark ahead, a list."""
    return [mark + " " + deed_text(deed, chart[3], chart[4]) for deed in deeds]


def room_rows(chart, room):
    """The rows of the room and of its deeds, a list."""
    words = [room[1], room[0]]
    if room[3] != "":
        words.extend(["keeps", room[3]])
    if room[4] != "":
        words.extend(["lamp", room[4]])
    row = "  " * room[2] + " ".join(words)
    return [row] + deed_rows(chart, "in", room[5]) + deed_rows(chart, "out", room[6])


def door_rows(chart, door):
    """The rows of the door, of its guard and of its deeds, a list."""
    rooms = chart[5]
    words = ["door", rooms[door[0]][0], chart[4][door[1]], door[4]]
    if door[5] is not None:
        words.append(rooms[door[5]][0])
    rows = [" ".join(words)]
    if door[2] != ("yes",):
        rows.append("when " + guard_text(door[2], chart[3], rooms))
    return rows + deed_rows(chart, "do", door[3])


def shown(chart):
    """The text of the chart."""
    rows = head_rows(chart)
    for room in chart[5]:
        rows.extend(room_rows(chart, room))
    for door in chart[6]:
        rows.extend(door_rows(chart, door))
    return "\n".join(rows)
