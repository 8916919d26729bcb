"""Nesting: how rooms lie in one another, by their depths."""


def parent(rooms, room):
    """The nearest room ahead that has a lesser depth, or None."""
    depth = rooms[room][2]
    for other in range(room - 1, -1, -1):
        if rooms[other][2] < depth:
            return other
    return None


def end_of(rooms, room):
    """The number behind the last room that lies in the room, or behind the room itself where none does.

    The rooms that lie in a room are just those that follow it until one is not deeper than it.
    """
    depth = rooms[room][2]
    for other in range(room + 1, len(rooms)):
        if rooms[other][2] <= depth:
            return other
    return len(rooms)


def kids(rooms, room):
    """The rooms whose parent is the room, rising."""
    depth = rooms[room][2] + 1
    return [other for other in range(room + 1, end_of(rooms, room)) if rooms[other][2] == depth]


def lies_in(rooms, one, other):
    """Whether the one room lies in the other."""
    return other < one < end_of(rooms, other)


def hall_over(rooms, one, other):
    """The deepest room of the kind `one` in which both rooms lie, or None."""
    hall = parent(rooms, one)
    while hall is not None:
        if rooms[hall][1] == "one" and lies_in(rooms, other, hall):
            return hall
        hall = parent(rooms, hall)
    return None
