"""The rows of a chart's text, by patterns and by the faults of what they tell: slow, and on a road of its own."""

import re

from nesthall.charts import faults

WORD = "([a-z]{1,12})"
NUMBER = "(0|-?[1-9][0-9]*)"
# A sign for each kind of row, and how it is written.
PATTERNS = (
    ("o", "order (inner|outer)"),
    ("l", f"letters {NUMBER}"),
    ("t", f"turns {NUMBER}"),
    ("b", f"box {WORD} {NUMBER} {NUMBER}"),
    ("e", f"event {WORD}"),
    ("r", f"((?:  )*)(plain|one|all) {WORD}(?: keeps (near|deep))?(?: lamp {WORD})?"),
    ("i", "in (.+)"),
    ("u", "out (.+)"),
    ("d", f"door {WORD} {WORD} (?:(to|back) {WORD}|(stay))"),
    ("w", "when (?!yes$)(.+)"),
    ("x", "do (.+)"),
)
# How the signs of the rows of a chart, or of its first rows, follow each other.
FOLLOWING = "o(l(t(b*e*((ri*u*)+(dw?x*)*)?)?)?)?"


class Wrong(Exception):
    """The rows can't stand so."""


def place_of(name, names):
    if name not in names:
        raise Wrong
    return names.index(name)


def number_of(text):
    if not re.fullmatch(NUMBER, text):
        raise Wrong
    return int(text)


def guard_of(words, boxes, rooms):
    """The guard that the words begin with, and the words that are left."""
    if not words:
        raise Wrong
    kind, *left = words
    count = {"yes": 0, "in": 1, "is": 2, "under": 2}.get(kind)
    if count is not None:
        if len(left) < count:
            raise Wrong
        parts = [place_of(left[0], rooms if kind == "in" else boxes)] if count else []
        parts += [number_of(left[1])] if count > 1 else []
        return ((kind, *parts), left[count:])
    guards = []
    for _ in range({"not": 1, "both": 2, "either": 2}.get(kind, 0)):
        guard, left = guard_of(left, boxes, rooms)
        guards.append(guard)
    if not guards:
        raise Wrong
    return ((kind, *guards), left)


def whole_guard(text, boxes, rooms):
    guard, left = guard_of(text.split(" "), boxes, rooms)
    if left:
        raise Wrong
    return guard


def deed_of(text, boxes, events):
    word = re.fullmatch("say (.*)", text)
    if word:
        return ("say", word[1])
    sent = re.fullmatch(f"send {WORD}", text)
    if sent:
        return ("send", place_of(sent[1], events))
    put = re.fullmatch(f"(set|add) {WORD} {NUMBER}", text)
    if put:
        return (put[1], place_of(put[2], boxes), int(put[3]))
    raise Wrong


def signs_of(rows):
    """The sign of each row, in one text, and what each row's pattern found."""
    signs, found = "", []
    for row in rows:
        fitting = [(sign, re.fullmatch(pattern, row)) for sign, pattern in PATTERNS if re.fullmatch(pattern, row)]
        if len(fitting) != 1:
            raise Wrong
        signs += fitting[0][0]
        found.append(fitting[0][1].groups())
    return (signs, found)


def chart_of(rows):
    """The chart that the rows tell so far, with heads of its own for those that are not told yet."""
    signs, found = signs_of(rows)
    if not re.fullmatch(FOLLOWING, signs):
        raise Wrong
    heads = [parts[0] for sign, parts in zip(signs, found) if sign in "olt"]
    order, letters, turns = heads + ["inner", "1", "1"][len(heads):]
    boxes = [(parts[0], int(parts[1]), int(parts[2])) for sign, parts in zip(signs, found) if sign == "b"]
    events = [parts[0] for sign, parts in zip(signs, found) if sign == "e"]
    box_names, rooms, doors = [box[0] for box in boxes], [], []
    for sign, parts in zip(signs, found):
        room_names = [room[0] for room in rooms]
        if sign == "r":
            blanks, kind, name, keeps, lamp = parts
            rooms.append([name, kind, len(blanks) // 2, keeps or "", lamp or "", (), ()])
        if sign in "iu":
            rooms[-1][5 if sign == "i" else 6] += (deed_of(parts[0], box_names, events),)
        if sign == "d":
            room, event, way, goal, stay = parts
            goal = None if stay else place_of(goal, room_names)
            doors.append([place_of(room, room_names), place_of(event, events), ("yes",), (), way or stay, goal])
        if sign == "w":
            doors[-1][2] = whole_guard(parts[0], box_names, room_names)
        if sign == "x":
            doors[-1][3] += (deed_of(parts[0], box_names, events),)
    told = [tuple(boxes), tuple(events), tuple(map(tuple, rooms)), tuple(map(tuple, doors))]
    return (order, int(letters), int(turns), *told)


def waits(chart):
    """Whether the last room is one that has no kids yet."""
    return chart[5] != () and chart[5][-1][1] != "plain"


def can_stand(rows):
    """Whether the rows can stand as the first ones of a text."""
    try:
        chart = chart_of(rows)
    except Wrong:
        return False
    rooms = chart[5]
    if waits(chart) and not chart[6]:
        # A kid behind the last room, of which nothing is asked but that it is deeper.
        stub = ("stub", "plain", rooms[-1][2] + 1, "", "", (), ())
        wrong = faults((*chart[:5], (*rooms, stub), ()))
        return len(rooms) <= 40 and set(wrong) <= {("room", len(rooms)), ("rooms", 0)}
    return [fault for fault in faults(chart) if rooms or fault != ("rooms", 0)] == []


def expected_row(text):
    """The number of the row by which the text is refused, or None."""
    rows = text.split("\n")
    for count in range(1, len(rows) + 1):
        if not can_stand(rows[:count]):
            return count
    chart = chart_of(rows)
    return len(rows) + 1 if chart[5] == () or waits(chart) else None
