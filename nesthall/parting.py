"""Parting: the first way that tells two rows of a table from one another."""


def is_parted(rows, pair, event):
    """Whether the event by itself parts the pair of rows: by what it says, or by the lamps to which it leads."""
    one = rows[pair[0]][1][event]
    other = rows[pair[1]][1][event]
    return one[0] != other[0] or rows[one[1]][0] != rows[other[1]][0]


def pair_behind(rows, pair, event):
    """The pair of rows to which the event leads, the lesser one first, since a way parts both orders alike."""
    one = rows[pair[0]][1][event][1]
    other = rows[pair[1]][1][event][1]
    return (min(one, other), max(one, other))


def way_to(origins, pair):
    """The way on which the pair was found; origins tells from which pair, and by which event, each one was."""
    events = []
    origin = origins[pair]
    while origin is not None:
        events.append(origin[1])
        origin = origins[origin[0]]
    return tuple(reversed(events))


def parting(rows, one, other):
    """The way, of all that part the two rows, that comes before all others; None where they are alike.

    Pairs are walked in the order of the ways on which they are found. Each keeps just its last step, as those
    of two long rings that are alike would together keep ways of very many events.
    """
    if rows[one][0] != rows[other][0]:
        return ()
    found = [(one, other)]
    origins = {(one, other): None}
    place = 0
    while place < len(found):
        pair = found[place]
        for event in range(len(rows[one][1])):
            if is_parted(rows, pair, event):
                return way_to(origins, pair) + (event,)
            behind = pair_behind(rows, pair, event)
            if behind not in origins:
                origins[behind] = (pair, event)
                found.append(behind)
        place += 1
    return None
