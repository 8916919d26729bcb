"""Passing: how a door is passed, and how a turn passes all doors that are chosen for its event."""

from nesthall.deeds import done
from nesthall.doors import chosen, goals_of
from nesthall.goings import goings_in, goings_out
from nesthall.nesting import hall_over
from nesthall.stands import keeping


def sizes_of(chart):
    """The sizes of the chart's boxes, a tuple."""
    return tuple([box[1] for box in chart[3]])


def steps_in(rooms, entered):
    """The steps of going into the rooms: for each of them what is recorded of it, and its deeds."""
    return [(("in", room), rooms[room][5]) for room in entered]


def steps_out(rooms, left):
    """The steps of going out of the rooms: for each of them what is recorded of it, and its deeds."""
    return [(("out", room), rooms[room][6]) for room in left]


def stepped(steps, boxes, sizes, letters):
    """What the boxes hold behind the deeds of all the steps, a tuple, and the record of the steps, a list."""
    held = boxes
    record = []
    for mark, deeds in steps:
        told = done(deeds, held, sizes, letters)
        held = told[0]
        record.append(mark)
        record.extend(told[1])
    return (held, record)


def passed(chart, stand, door, letters):
    """The stand behind a door whose room is open, and the record of its passing."""
    rooms = chart[5]
    parts = chart[6][door]
    opening = stand[0]
    kept = stand[2]
    left = []
    entered = []
    if parts[4] != "stay":
        hall = hall_over(rooms, parts[0], parts[5])
        left = goings_out(rooms, hall, opening)
        # A door may lead back to what this very passing keeps, so keeping comes first.
        kept = keeping(rooms, opening, left, kept)
        entered = goings_in(rooms, hall, goals_of(chart, kept, door))
    through = [(("through", door), parts[3])]
    steps = [(("door", door), ())] + steps_out(rooms, left) + through + steps_in(rooms, entered)
    told = stepped(steps, stand[1], sizes_of(chart), letters)
    staying = [room for room in opening if room not in left]
    return ((tuple(sorted(staying + entered)), told[0], kept), told[1])


def rooms_left(record):
    """The rooms that a record goes out of, a list."""
    return [part[1] for part in record if part[0] == "out"]


def turn(chart, stand, event, letters):
    """The stand behind the doors that are chosen for the event, and the record of the turn."""
    now = stand
    record = [("take", event)]
    left = []
    for door in chosen(chart, stand, event):
        # A room that was left may be open again; its door is passed over even so.
        if chart[6][door][0] not in left:
            told = passed(chart, now, door, letters)
            now = told[0]
            record.extend(told[1])
            left.extend(rooms_left(told[1]))
    return (now, record)
