"""Goings: which rooms are gone into, and which are gone out of."""

from nesthall.nesting import end_of, kids


def bears_goal(rooms, room, goals):
    """Whether the room is a goal itself, or a goal lies in it."""
    end = end_of(rooms, room)
    return any([room <= goal < end for goal in goals])


def next_in(rooms, room, goals):
    """The kids of the room that are gone into with it, a list."""
    own = kids(rooms, room)
    if rooms[room][1] == "all":
        return own
    for kid in own:
        if bears_goal(rooms, kid, goals):
            return [kid]
    return own[:1]


def goings_in(rooms, under, goals):
    """The goings in beneath the room, or from outside of all, with the goals: a list of rooms, rising."""
    ahead = [0] if under is None else next_in(rooms, under, goals)
    gone = []
    # A row of rooms ahead in the place of a recursion, so that no depth is too great.
    while len(ahead) > 0:
        room = ahead.pop()
        gone.append(room)
        ahead.extend(next_in(rooms, room, goals))
    return sorted(gone)


def goings_out(rooms, under, opening):
    """The goings out beneath the room, or of all rooms, of a full opening: a list of rooms, falling."""
    if under is None:
        return sorted(opening, reverse=True)
    end = end_of(rooms, under)
    return sorted([room for room in opening if under < room < end], reverse=True)
