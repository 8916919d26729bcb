"""Guards: whether a door can be gone through."""


def holds(guard, opening, boxes):
    """Whether the guard holds where these rooms are open and the boxes hold these numbers."""
    kind = guard[0]
    if kind == "yes":
        return True
    if kind == "is":
        return boxes[guard[1]] == guard[2]
    if kind == "under":
        return boxes[guard[1]] < guard[2]
    if kind == "in":
        return guard[1] in opening
    if kind == "not":
        return not holds(guard[1], opening, boxes)
    if kind == "both":
        return holds(guard[1], opening, boxes) and holds(guard[2], opening, boxes)
    return holds(guard[1], opening, boxes) or holds(guard[2], opening, boxes)


def guards_within(guard):
    """The guards that stand straight in the guard, in a list; none of the first four kinds."""
    if guard[0] == "not":
        return [guard[1]]
    if guard[0] in ("both", "either"):
        return [guard[1], guard[2]]
    return []


def height(guard):
    """How many guards stand within one another, at the most, the guard itself counted."""
    return 1 + max([height(within) for within in guards_within(guard)], default=0)


def plain_guards(guard):
    """The guards of the first four kinds that stand anywhere in the guard, in a list."""
    inner = guards_within(guard)
    if len(inner) == 0:
        return [guard]
    plain = []
    for within in inner:
        plain.extend(plain_guards(within))
    return plain


def asked(guard):
    """What the guard asks: its boxes and its rooms, two rising lists in a tuple."""
    plain = plain_guards(guard)
    boxes = [part[1] for part in plain if part[0] in ("is", "under")]
    rooms = [part[1] for part in plain if part[0] == "in"]
    return (sorted(set(boxes)), sorted(set(rooms)))
