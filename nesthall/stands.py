"""Stands: which rooms are open, what the boxes hold, and what is kept of rooms that were left."""

from nesthall.goings import goings_in, goings_out
from nesthall.nesting import kids


def is_full(rooms, opening):
    """Whether the opening is full.

    With the rooms of a full opening as goals the goings in from outside of all are these rooms again,
    and whatever the goals are, the goings in from outside of all are a full opening.
    """
    return list(opening) == goings_in(rooms, None, list(opening))


def plain_ones(rooms, told):
    """The plain rooms among those told, a tuple, in their order."""
    return tuple([room for room in told if rooms[room][1] == "plain"])


def kept_of(rooms, opening, room):
    """What is kept of an open room that keeps, when it is left: a tuple of rooms."""
    inside = sorted(goings_out(rooms, room, opening))
    if rooms[room][3] == "near":
        # The one open kid is the least of the open rooms that lie in its parent.
        return tuple(inside[:1])
    return plain_ones(rooms, inside)


def keeping(rooms, opening, left, kept):
    """What is kept when the rooms of the list left are left, a tuple of tuples of rooms."""
    told = list(kept)
    for room in left:
        if rooms[room][3] != "":
            told[room] = kept_of(rooms, opening, room)
    return tuple(told)


def can_keep(rooms, room, goals):
    """Whether the tuple of goals may be kept of the room."""
    if len(goals) == 0:
        return True
    if rooms[room][3] == "near":
        return len(goals) == 1 and goals[0] in kids(rooms, room)
    if rooms[room][3] == "deep":
        return goals == plain_ones(rooms, goings_in(rooms, room, list(goals)))
    return False


def are_held(boxes, numbers):
    """Whether the boxes of a chart can hold the numbers."""
    if len(numbers) != len(boxes):
        return False
    return all([0 <= number < box[1] for number, box in zip(numbers, boxes)])


def is_stand(chart, stand):
    """Whether the stand is one of the chart."""
    rooms = chart[5]
    kept = stand[2]
    if not is_full(rooms, stand[0]) or not are_held(chart[3], stand[1]):
        return False
    if len(kept) != len(rooms):
        return False
    return all([can_keep(rooms, room, goals) for room, goals in enumerate(kept)])


def lamps(rooms, opening):
    """The lamps of a full opening, a tuple of words."""
    return tuple([rooms[room][4] for room in opening if rooms[room][4] != ""])
