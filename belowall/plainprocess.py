"""A process of the plain machine."""


class PlainProcess:
    """What a process that is there has: its name, its parent's tuple, its pages, its flag, and whether it has ended."""

    def __init__(self, name, parent, memory):
        self.name = name
        self.parent = parent
        self.memory = {page: list(cells) for page, cells in memory.items()}
        self.is_flagged = False
        self.has_ended = False

    def map_page(self, page):
        """Let the process have a page, and return what a map tells."""
        if page in self.memory:
            return "there"
        self.memory[page] = [0, 0]
        return "done"

    def drop_page(self, page):
        """Let the process have a page no longer, and return what a drop tells."""
        if page not in self.memory:
            return "none"
        del self.memory[page]
        return "done"

    def read_cell(self, page, cell):
        """Return what a read tells."""
        if page not in self.memory:
            return "none"
        return self.memory[page][cell]

    def write_cell(self, page, cell, value):
        """Change a value, and return what a write tells."""
        if page not in self.memory:
            return "none"
        self.memory[page][cell] = value
        return "done"

    def put_up_flag(self):
        """Let the flag be up, unless the process has ended, and return what a send tells."""
        if not self.has_ended:
            self.is_flagged = True
        return "done"

    def finish(self):
        """Let the process end."""
        self.memory = {}
        self.is_flagged = False
        self.has_ended = True

    def copied(self):
        """Return a process like this one."""
        other = PlainProcess(self.name, self.parent, self.memory)
        other.is_flagged = self.is_flagged
        other.has_ended = self.has_ended
        return other
