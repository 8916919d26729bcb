"""Deeds: what is said, put into boxes and sent."""


def changed(deed, boxes, sizes):
    """What the boxes hold behind the deed, in a tuple."""
    kind = deed[0]
    if kind not in ("set", "add"):
        return boxes
    box = deed[1]
    number = deed[2]
    if kind == "add":
        number = (boxes[box] + number) % sizes[box]
    return boxes[:box] + (number,) + boxes[box + 1:]


def recorded(deed, boxes, letters):
    """The record of a deed behind which the boxes hold these numbers; a send is added to the letters."""
    kind = deed[0]
    if kind == "say":
        return ("say", deed[1])
    if kind == "send":
        return ("send" if letters.add(deed[1]) else "lost", deed[1])
    return ("put", deed[1], boxes[deed[1]])


def done(deeds, boxes, sizes, letters):
    """What the boxes hold behind all the deeds, a tuple, and the record of the deeds, a list."""
    held = boxes
    record = []
    for deed in deeds:
        held = changed(deed, held, sizes)
        record.append(recorded(deed, held, letters))
    return (held, record)
