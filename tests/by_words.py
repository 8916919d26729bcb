"""Goings, doors, runs, tables and what is told of them, word by word as promised: slow, and on roads of its own."""

import itertools

from nesthall.guards import holds
from samples import above


def kids_of(rooms, room):
    return [kid for kid in range(len(rooms)) if above(rooms, kid)[:1] == [room]]


def plain_in(rooms, room, opening):
    """The plain rooms of the opening that lie in the room."""
    return tuple(other for other in opening if rooms[other][1] == "plain" and room in above(rooms, other))


def expected_in(rooms, under, goals):
    """The goings in."""
    if under is None:
        return [0] + expected_in(rooms, 0, goals)
    own = kids_of(rooms, under)
    if rooms[under][1] == "one":
        bearing = [kid for kid in own if kid in goals or any(kid in above(rooms, goal) for goal in goals)]
        own = (bearing or own)[:1]
    told = []
    for kid in own:
        told += [kid] + expected_in(rooms, kid, goals)
    return told


def expected_out(rooms, under, opening):
    """The goings out."""
    return [room for room in opening[::-1] if under is None or under in above(rooms, room)]


def expected_answer(asked, where, room, event):
    """The door by which the room answers."""
    if room not in where[0]:
        return None
    for number, told in enumerate(asked[6]):
        if told[0] == room and told[1] == event and holds(told[2], where[0], where[1]):
            return number
    return None


def expected_chosen(asked, where, event):
    """The doors that are chosen."""
    rooms = asked[5]
    answers = {}
    for room in range(len(rooms)):
        number = expected_answer(asked, where, room, event)
        if number is not None:
            answers[room] = number
    told = []
    for room in answers:
        inside = [other for other in answers if room in above(rooms, other)]
        over = [other for other in answers if other in above(rooms, room)]
        if not (inside if asked[0] == "inner" else over):
            told.append(answers[room])
    return told


def expected_hall(rooms, one, other):
    """The hall over both rooms."""
    halls = [room for room in above(rooms, one) if room in above(rooms, other) and rooms[room][1] == "one"]
    return max(halls, key=lambda room: rooms[room][2], default=None)


class Walker:
    """A chart that is walked step by step, with what waits, and with the record of all steps."""

    def __init__(self, chart, stand=None, bound=None, waiting=()):
        self.chart = chart
        self.sizes = [box[1] for box in chart[3]]
        self.rooms = chart[5]
        opening, held, kept = stand or ((), [box[2] for box in chart[3]], [()] * len(self.rooms))
        self.opening, self.held, self.kept = set(opening), list(held), list(kept)
        self.bound = chart[1] if bound is None else bound
        self.waiting = list(waiting)
        self.record = []

    def stand(self):
        return (tuple(sorted(self.opening)), tuple(self.held), tuple(self.kept))

    def do(self, deeds):
        for kind, *parts in deeds:
            if kind == "say":
                self.record.append(("say", parts[0]))
            elif kind == "send":
                self.send(parts[0])
            else:
                box, number = parts
                self.held[box] = number if kind == "set" else (self.held[box] + number) % self.sizes[box]
                self.record.append(("put", box, self.held[box]))

    def send(self, event):
        if len(self.waiting) < self.bound:
            self.waiting.append(event)
            self.record.append(("send", event))
        else:
            self.record.append(("lost", event))

    def keep(self, left):
        opening = tuple(sorted(self.opening))
        for room in left:
            if self.rooms[room][3] == "near":
                self.kept[room] = tuple(kid for kid in kids_of(self.rooms, room) if kid in opening)
            if self.rooms[room][3] == "deep":
                self.kept[room] = plain_in(self.rooms, room, opening)

    def go_in(self, entered):
        for room in entered:
            self.opening.add(room)
            self.record.append(("in", room))
            self.do(self.rooms[room][5])

    def pass_door(self, number):
        """The rooms that are left."""
        room, _, _, deeds, way, goal = self.chart[6][number]
        self.record.append(("door", number))
        if way == "stay":
            self.record.append(("through", number))
            self.do(deeds)
            return []
        hall = expected_hall(self.rooms, room, goal)
        left = expected_out(self.rooms, hall, sorted(self.opening))
        self.keep(left)
        for gone in left:
            self.opening.remove(gone)
            self.record.append(("out", gone))
            self.do(self.rooms[gone][6])
        self.record.append(("through", number))
        self.do(deeds)
        goals = list(self.kept[goal]) if way == "back" and self.kept[goal] else [goal]
        self.go_in(expected_in(self.rooms, hall, goals))
        return left

    def turn(self, event):
        left = set()
        doors = expected_chosen(self.chart, self.stand(), event)
        self.record.append(("take", event))
        for number in doors:
            if self.chart[6][number][0] not in left:
                left.update(self.pass_door(number))

    def rest(self):
        """The turns that follow the first one."""
        for _ in range(self.chart[2] - 1):
            if self.waiting:
                self.turn(self.waiting.pop(0))
        self.record.extend([("lost", event) for event in self.waiting])
        self.waiting = []

    def told(self):
        return (self.stand(), self.record)


def expected_begun(chart):
    """The chart's beginning."""
    walker = Walker(chart)
    walker.go_in(expected_in(chart[5], None, []))
    walker.rest()
    return walker.told()


def expected_after(chart, stand, event):
    """The run of the event."""
    walker = Walker(chart, stand)
    walker.turn(event)
    walker.rest()
    return walker.told()


def words_of(record):
    return tuple(part[1] for part in record if part[0] == "say")


def all_ways(count, longest):
    """Each way of so many events, up to this length, the one that comes before all others first."""
    for length in range(longest + 1):
        yield from itertools.product(range(count), repeat=length)


def expected_seen(chart, longest):
    """What is seen of the chart, out of all ways up to this length."""
    runs = {(): expected_begun(chart)}
    behind = {}
    met = {}
    for way in all_ways(len(chart[4]), longest):
        if way:
            step = (runs[way[:-1]][0], way[-1])
            if step not in behind:
                behind[step] = expected_after(chart, *step)
            runs[way] = behind[step]
        for part in runs[way][1]:
            met.setdefault(part, way)
    rooms = [met.get(("in", room)) for room in range(len(chart[5]))]
    return (rooms, [met.get(("door", door)) for door in range(len(chart[6]))])


def gone_along(rows, row, way):
    """What the last event of the way says, None for the empty one, and the row to which the way leads."""
    spoken = None
    for event in way:
        spoken, row = rows[row][1][event]
    return (spoken, row)


def is_parted_by(rows, one, other, way):
    """Whether the way parts the two rows."""
    spoken, end = gone_along(rows, one, way)
    other_spoken, other_end = gone_along(rows, other, way)
    return spoken != other_spoken or rows[end][0] != rows[other_end][0]


def expected_parting(rows, one, other, longest):
    """The parting of the two rows, out of all ways up to this length."""
    for way in all_ways(len(rows[0][1]), longest):
        if is_parted_by(rows, one, other, way):
            return way
    return None


def parted_lengths(rows):
    """For each two rows that are parted how many events the shortest way has that parts them."""
    count, events = len(rows), range(len(rows[0][1]))
    pairs = list(itertools.product(range(count), repeat=2))
    lengths = {(one, other): 0 for one, other in pairs if rows[one][0] != rows[other][0]}
    grown, length = True, 0
    while grown:
        length += 1
        grown = {}
        for one, other in pairs:
            steps = [(rows[one][1][event], rows[other][1][event]) for event in events]
            ends = [(first[1], second[1]) for first, second in steps]
            if (one, other) not in lengths and (
                any(first[0] != second[0] for first, second in steps) or any(pair in lengths for pair in ends)
            ):
                grown[one, other] = length
        lengths.update(grown)
    return lengths


def expected_shrunk(rows):
    """The table shrunk."""
    lengths = parted_lengths(rows)
    fold, firsts = [], []
    for row in range(len(rows)):
        own = [number for number, first in enumerate(firsts) if (row, first) not in lengths]
        if not own:
            firsts.append(row)
        fold.append((own or [len(firsts) - 1])[0])
    small = []
    for first in firsts:
        lamps, moves = rows[first]
        small.append((lamps, tuple((words, fold[to]) for words, to in moves)))
    return (fold, small)
