"""Shrinking: a table told by the least one that does the same."""


def numbered(looks):
    """For each look a number, the same for the same looks, in the order in which they come first."""
    numbers = {}
    for look in looks:
        numbers.setdefault(look, len(numbers))
    return [numbers[look] for look in looks]


def folded_moves(row, fold):
    """The moves of the row, with what each row becomes by the fold in its place."""
    return tuple([(move[0], fold[move[1]]) for move in row[1]])


def finer(rows, fold):
    """The fold that tells apart what the fold does, and also what one event from there on does."""
    return numbered([(number, folded_moves(row, fold)) for number, row in zip(fold, rows)])


def alike(rows):
    """For each row the number of those that are alike with it, in the order of the first ones: a list."""
    fold = numbered([row[0] for row in rows])
    further = finer(rows, fold)
    while further != fold:
        fold = further
        further = finer(rows, fold)
    return fold


def shrunk(rows):
    """What each row becomes, a list, and the table in which no two rows are alike."""
    fold = alike(rows)
    firsts = [row for row, number in enumerate(fold) if fold.index(number) == row]
    return (fold, [(rows[row][0], folded_moves(rows[row], fold)) for row in firsts])
