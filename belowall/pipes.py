"""A pipe: its room, the values in it, and whether it is sealed."""


class Pipe:
    """A pipe, at first empty and not sealed."""

    def __init__(self, room):
        self.room = room
        self.row = []
        self.sealed = False

    def can_put(self):
        """Tell whether a put can be done."""
        return self.sealed or len(self.row) < self.room

    def can_take(self):
        """Tell whether a take, or a drain, can be done."""
        return self.sealed or len(self.row) > 0

    def put(self, value):
        """Let a value stand behind the others, and return what a put tells that can be done."""
        if self.sealed:
            return "closed"
        self.row.append(value)
        return "done"

    def take(self):
        """Take out the first value, and return what a take tells that can be done."""
        if not self.row:
            return "end"
        return self.row.pop(0)

    def drain(self):
        """Take out all values, and return what a drain tells that can be done."""
        if not self.row:
            return "end"
        found = tuple(self.row)
        self.row = []
        return found

    def seal(self):
        """Seal the pipe, and return what a close tells."""
        self.sealed = True
        return "done"

    def copied(self):
        """Return a pipe like this one."""
        other = Pipe(self.room)
        other.row = list(self.row)
        other.sealed = self.sealed
        return other
