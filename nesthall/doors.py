"""Doors: by which of them rooms answer an event, and where they lead."""

from nesthall.guards import holds
from nesthall.nesting import lies_in


def answers(chart, stand, event):
    """The doors by which rooms answer the event, a dict with the door of each room that does."""
    opening = stand[0]
    by_room = {}
    for number, door in enumerate(chart[6]):
        room = door[0]
        if door[1] == event and room in opening and room not in by_room and holds(door[2], opening, stand[1]):
            by_room[room] = number
    return by_room


def answer(chart, stand, room, event):
    """The door by which the room answers the event, or None."""
    return answers(chart, stand, event).get(room)


def is_outdone(chart, room, others):
    """Whether the chart's order puts one of the other rooms that answer ahead of the room."""
    rooms = chart[5]
    if chart[0] == "inner":
        return any([lies_in(rooms, other, room) for other in others])
    return any([lies_in(rooms, room, other) for other in others])


def chosen(chart, stand, event):
    """The doors that are chosen for the event, a list, in the rising order of their rooms."""
    by_room = answers(chart, stand, event)
    answering = sorted(by_room)
    return [by_room[room] for room in answering if not is_outdone(chart, room, answering)]


def goals_of(chart, kept, door):
    """The goals of the door, with what is kept: a list of rooms."""
    way = chart[6][door][4]
    goal = chart[6][door][5]
    if way == "stay":
        return []
    if way == "back" and len(kept[goal]) > 0:
        return list(kept[goal])
    return [goal]
