"""The kernel: where a machine stands that goes by a plan, step by step.

What changes is kept in dicts whose values never change themselves (each is exchanged for another), so that a copy is
made quickly. A deed under way is a tuple (deed, rest, parts): its name, the steps that are left, and what it goes by.
"""

from belowall.frames import Store
from belowall.pipes import EMPTY_PIPE

PAGER = ()


class Kernel:
    """The state of a machine for a plan and a scene; it begins with no process at all."""

    def __init__(self, plan, scene):
        self.plan = plan
        self.scene = scene
        self.frame_store = Store()
        self.slot_store = Store()
        self.pipes = [EMPTY_PIPE for _ in scene.rooms]
        # Of hands: what their calls told, their caches, and whether they rested, or have a process to close.
        self.tellings = {}
        self.caches = {}
        self.rested = {}
        self.closers = {}
        # Of processes: their tables, the names that they keep, whether the flag is up, and whether they have ended.
        self.tables = {}
        self.kept_names = {}
        self.flagged = {}
        self.ended = {}
        # The processes that are there, by their names.
        self.present = {}
        # The lists of those who wait, by ("put", pipe), ("take", pipe) and ("wait", process).
        self.rows = {}
        for pipe in range(len(scene.rooms)):
            self.rows["put", pipe] = ()
            self.rows["take", pipe] = ()
        self.under_way = {}
        self.outs_done = 0

    def copied(self):
        """Return a kernel that stands like this one."""
        other = Kernel(self.plan, self.scene)
        other.frame_store = self.frame_store.copied()
        other.slot_store = self.slot_store.copied()
        other.pipes = self.pipes.copy()
        other.tellings = {hand: told for hand, told in self.tellings.items()}
        other.caches = {hand: cache for hand, cache in self.caches.items()}
        other.rested = {hand: True for hand in self.rested}
        other.closers = {hand: True for hand in self.closers}
        other.tables = {process: table for process, table in self.tables.items()}
        other.kept_names = {process: name for process, name in self.kept_names.items()}
        other.flagged = {process: True for process in self.flagged}
        other.ended = {process: True for process in self.ended}
        other.present = self.present.copy()
        other.rows = {at: row for at, row in self.rows.items()}
        other.under_way = {agent: doing for agent, doing in self.under_way.items()}
        other.outs_done = self.outs_done
        return other

    def start(self, process, kept_name, table):
        """Let a process be there, and its hands begin."""
        hands = self.scene.mates[process]
        self.present[self.scene.names[process]] = process
        self.kept_names[process] = kept_name
        self.tables[process] = table
        self.rows["wait", process] = ()
        for hand in hands:
            self.tellings[hand] = ()
            self.caches[hand] = {}
        if self.is_through(process):
            self.closers[hands[0]] = True

    def next_call(self, hand):
        """Return the next call of a hand, or None if there is none left."""
        calls = self.scene.calls[hand]
        number = len(self.tellings[hand])
        return calls[number] if number < len(calls) else None

    def is_through(self, process):
        """Tell whether all calls of a process are done."""
        return all([self.next_call(hand) is None for hand in self.scene.mates[process]])

    def tell(self, hand, telling):
        """Let the call of a hand be done; the last one of a process makes the hand close it."""
        self.tellings[hand] = (*self.tellings[hand], telling)
        if self.is_through(hand[:-1]):
            self.closers[hand] = True

    def is_there(self, process):
        """Tell whether a process that stands in the work is there."""
        return self.present.get(self.scene.names[process]) == process

    def children(self, process):
        """Return the list of the processes that are there and keep the own name of a process."""
        name = self.scene.names[process]
        return [child for child in list(self.present.values()) if self.kept_names[child] == name]

    def put_up_flag(self, process):
        """Let the flag of a process be up, unless it has ended."""
        if process not in self.ended:
            self.flagged[process] = True

    def put_down_flag(self, process):
        """Let the flag of a process be down."""
        self.flagged.pop(process, None)

    def set_entry(self, process, page, entry):
        """Let the table of a process have an entry for a page."""
        self.tables[process] = {**self.tables[process], page: entry}

    def remove_entries(self, process, pages):
        """Let the table of a process have no entries for these pages."""
        table = self.tables[process]
        self.tables[process] = {page: table[page] for page in table if page not in pages}

    def flush(self, process, pages):
        """Take pages out of the caches of all hands of a process."""
        for hand in self.scene.mates[process]:
            cache = self.caches[hand]
            self.caches[hand] = {page: cache[page] for page in cache if page not in pages}

    def empty_caches(self, process):
        """Let the caches of all hands of a process be empty."""
        for hand in self.scene.mates[process]:
            self.caches[hand] = {}
