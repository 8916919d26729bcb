"""Charts: the faults that one can have.

What is looked at here may be any chart at all by its texts and numbers, so a
number is never used as an index ahead of the question whether it is one.
"""

from nesthall.guards import asked, height, plain_guards
from nesthall.words import is_word

ORDERS = ("inner", "outer")
KINDS = ("plain", "one", "all")
MOST_LETTERS = 12
MOST_TURNS = 20
MOST_BOXES = 6
MOST_EVENTS = 8
MOST_ROOMS = 40
MOST_DOORS = 60
MOST_DEEDS = 8
DEEPEST = 12
HIGHEST = 6
GREATEST = 1_000_000_000_000_000_000_000_000_000_000


def is_number_of(number, things):
    """Whether the number, or None, is that of one of the things."""
    return number is not None and 0 <= number < len(things)


def is_in_reach(number):
    """Whether the number may stand in a guard or an add."""
    return -GREATEST <= number <= GREATEST


def names_of(things):
    """The names of boxes or rooms, a list."""
    return [thing[0] for thing in things]


def name_has_fault(name, ahead):
    """Whether the name is no word, or is among the names ahead of it."""
    return not is_word(name) or name in ahead


def box_has_fault(box, ahead):
    """Whether the box, behind the boxes ahead, has a fault."""
    size = box[1]
    start = box[2]
    if name_has_fault(box[0], names_of(ahead)):
        return True
    return not 1 <= size <= GREATEST or not 0 <= start < size


def deed_has_fault(deed, boxes, events):
    """Whether the deed has a fault, among these boxes and events."""
    kind = deed[0]
    if kind == "say":
        return not is_word(deed[1])
    if kind == "send":
        return not is_number_of(deed[1], events)
    if not is_number_of(deed[1], boxes):
        return True
    if kind == "set":
        size = boxes[deed[1]][1]
        return not 0 <= deed[2] < size
    return not is_in_reach(deed[2])


def deeds_have_fault(deeds, boxes, events):
    """Whether there are too many deeds, or one with a fault."""
    return len(deeds) > MOST_DEEDS or any([deed_has_fault(deed, boxes, events) for deed in deeds])


def depth_has_fault(depth, ahead):
    """Whether a room, behind the rooms ahead, can't have the depth."""
    if len(ahead) == 0:
        return depth != 0
    return not 1 <= depth <= ahead[-1][2] + 1 or depth > DEEPEST


def keeps_has_fault(keeps, kind):
    """Whether a room of the kind can't keep so."""
    if keeps == "near":
        return kind != "one"
    if keeps == "deep":
        return kind not in ("one", "all")
    return keeps != ""


def room_has_fault(room, ahead, boxes, events):
    """Whether the room, behind the rooms ahead, has a fault, whatever follows it."""
    kind = room[1]
    lamp = room[4]
    if name_has_fault(room[0], names_of(ahead)) or kind not in KINDS:
        return True
    if depth_has_fault(room[2], ahead) or keeps_has_fault(room[3], kind):
        return True
    if lamp != "" and not is_word(lamp):
        return True
    return deeds_have_fault(room[5], boxes, events) or deeds_have_fault(room[6], boxes, events)


def end_has_fault(room, behind):
    """Whether the kind of the room and what follows it don't fit: just a plain room has none in it."""
    has_kids = len(behind) > 0 and behind[0][2] > room[2]
    if room[1] == "plain":
        return has_kids
    return not has_kids


def guard_has_fault(guard, boxes, rooms):
    """Whether the guard is too high, or asks or says what it can't among these boxes and rooms."""
    if height(guard) > HIGHEST:
        return True
    wanted = asked(guard)
    if not all([is_number_of(box, boxes) for box in wanted[0]]):
        return True
    if not all([is_number_of(room, rooms) for room in wanted[1]]):
        return True
    return not all([is_in_reach(part[2]) for part in plain_guards(guard) if part[0] in ("is", "under")])


def goal_has_fault(way, goal, rooms):
    """Whether the way is none, or can't have the goal."""
    if way == "to":
        return not is_number_of(goal, rooms)
    if way == "back":
        return not is_number_of(goal, rooms) or rooms[goal][3] == ""
    return way != "stay" or goal is not None


def door_has_fault(door, boxes, events, rooms):
    """Whether the door has a fault, among these boxes, events and rooms."""
    if not is_number_of(door[0], rooms) or not is_number_of(door[1], events):
        return True
    if guard_has_fault(door[2], boxes, rooms) or deeds_have_fault(door[3], boxes, events):
        return True
    return goal_has_fault(door[4], door[5], rooms)


def bound_faults(chart):
    """The faults of the order, the letters and the turns."""
    told = []
    if chart[0] not in ORDERS:
        told.append(("order", 0))
    if not 0 <= chart[1] <= MOST_LETTERS:
        told.append(("letters", 0))
    if not 1 <= chart[2] <= MOST_TURNS:
        told.append(("turns", 0))
    return told


def box_faults(boxes):
    """The faults of the boxes."""
    told = [("boxes", 0)] if len(boxes) > MOST_BOXES else []
    for number, box in enumerate(boxes):
        if box_has_fault(box, boxes[:number]):
            told.append(("box", number))
    return told


def event_faults(events):
    """The faults of the events."""
    told = [("events", 0)] if len(events) > MOST_EVENTS else []
    for number, name in enumerate(events):
        if name_has_fault(name, events[:number]):
            told.append(("event", number))
    return told


def room_faults(rooms, boxes, events):
    """The faults of the rooms, among these boxes and events."""
    told = [] if 1 <= len(rooms) <= MOST_ROOMS else [("rooms", 0)]
    for number, room in enumerate(rooms):
        if room_has_fault(room, rooms[:number], boxes, events) or end_has_fault(room, rooms[number + 1:]):
            told.append(("room", number))
    return told


def door_faults(doors, boxes, events, rooms):
    """The faults of the doors, among these boxes, events and rooms."""
    told = [("doors", 0)] if len(doors) > MOST_DOORS else []
    for number, door in enumerate(doors):
        if door_has_fault(door, boxes, events, rooms):
            told.append(("door", number))
    return told


def faults(chart):
    """The faults of the chart, a list of tuples of a text and a number."""
    boxes = chart[3]
    events = chart[4]
    rooms = chart[5]
    told = bound_faults(chart)
    told.extend(box_faults(boxes))
    told.extend(event_faults(events))
    told.extend(room_faults(rooms, boxes, events))
    told.extend(door_faults(chart[6], boxes, events, rooms))
    return told
