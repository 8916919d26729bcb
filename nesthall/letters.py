"""Letters: the events that a chart sends to itself, and that wait to be taken."""


class Letters:
    """A row of events that wait, at most so many at once."""

    def __init__(self, most):
        self.most = most
        self.events = []

    def add(self, event):
        """Whether the letter waits then, behind all others; else it is lost."""
        if len(self.events) >= self.most:
            return False
        self.events.append(event)
        return True

    def taken(self):
        """The first letter that waits, which waits no longer, or None where none waits."""
        if len(self.events) == 0:
            return None
        return self.events.pop(0)

    def waiting(self):
        """The letters that wait, the first one first, in a list of the asker's own."""
        return list(self.events)
