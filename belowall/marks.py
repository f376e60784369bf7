"""Marks: where all runs of a work are asked for, kernels with one mark go on alike, and one of them is led on for all.

A kernel GOES BY a frame or a slot if it is in a table, in a cache whose hand will look there, or among what a deed
under way still needs. By NAMES those that it goes by are told apart by where it does so, not by their numbers: that is
enough as long as none of them is free, for then it does not matter which free one is taken next. By NUMBERS each is
told by its number. What nobody will look at any more is left out of a mark in either case.
"""

from belowall.kinds import is_alone
from belowall.rules import stands_ahead
from belowall.scenes import Scene

# Of the deeds that take something: which of their parts are frames ("in") or slots ("out"), and for which steps.
NEEDED_PARTS = {
    "copy": ((2, "in", ("fill", "lower")), (3, "in", ("fill", "put"))),
    "fetch": ((2, "out", ("load", "leave")), (3, "in", ("load", "put"))),
    "map": ((2, "in", ("wipe", "put")),),
    "out": ((2, "in", ("save", "lower")), (3, "out", ("shut", "save"))),
}

# The part that such a deed takes, and the step that gives it its values.
FILLED_PARTS = {
    "copy": (3, "in", "fill"),
    "fetch": (3, "in", "load"),
    "map": (2, "in", "wipe"),
    "out": (3, "out", "save"),
}

FILLING_PAIRS = (("copy", "fill", "put"), ("fetch", "load", "put"), ("map", "wipe", "put"))


def are_filled_first(plan, work):
    """Tell whether nobody looks at what a frame had ahead of its being taken, as long as free ones are not gone by."""
    if is_alone(work):
        # While the only hand of a process is in a deed, nobody looks into its table.
        return True
    return all([stands_ahead(plan.order(deed), first, second) for deed, first, second in FILLING_PAIRS])


def pages_ahead(calls):
    """Return for each number of calls done the tuple of the pages that the others read or write."""
    pages = [call[1] if call[0] in ("read", "write") else None for call in calls]
    return [tuple(pages[number:]) for number in range(len(calls) + 1)]


class Naming:
    """What a kernel goes by, each with its name, in the order in which it was come upon."""

    def __init__(self, kernel, by_names):
        self.stores = {"in": kernel.frame_store, "out": kernel.slot_store}
        self.by_names = by_names
        self.names = {}
        self.unfilled = {}

    def named(self, sort, number):
        """Return the name of a frame or a slot."""
        at = (sort, number)
        if at not in self.names:
            self.names[at] = len(self.names) if self.by_names else number
        return self.names[at]

    def leave_out_values(self, sort, number):
        """Leave out the values of one that is taken and has none of its own yet."""
        # Where free ones are gone by, others may still look at it.
        if self.by_names:
            self.unfilled[sort, number] = True

    def is_any_free(self):
        """Tell whether one that is gone by is free."""
        return any([self.stores[sort].count_of(number) == 0 for sort, number in self.names])

    def contents(self, sort, number):
        """Return the count and the values of one, unless these are left out."""
        store = self.stores[sort]
        is_unfilled = (sort, number) in self.unfilled
        return (store.count_of(number), None if is_unfilled else tuple(store.values_of(number)))

    def all_contents(self):
        """Return the counts and values of all that is gone by."""
        return tuple([self.contents(sort, number) for sort, number in self.names])


class Marks:
    """Gives marks to the kernels of a plan and a work."""

    def __init__(self, plan, work, by_names):
        scene = Scene(work)
        self.by_names = by_names
        self.filled_first = are_filled_first(plan, work)
        self.process_row = list(scene.names)
        self.hand_row = list(scene.calls)
        self.page_rows = {hand: pages_ahead(calls) for hand, calls in scene.calls.items()}
        pipes = range(len(scene.rooms))
        self.row_names = [(word, pipe) for pipe in pipes for word in ("put", "take")]
        self.row_names.extend([("wait", process) for process in self.process_row])

    def tables_of(self, kernel, naming):
        """Return the tables."""
        return tuple([
            (process, tuple([
                (page, entry[0], naming.named(entry[0], entry[1]), *entry[2:])
                for page, entry in sorted(kernel.tables[process].items())
            ]))
            for process in self.process_row if process in kernel.tables
        ])

    def cache_of(self, kernel, hand, naming):
        """Return of the cache of a hand what it will look at."""
        pages = self.page_rows[hand][len(kernel.tellings[hand])]
        return tuple([
            (page, naming.named("in", held[0]), held[1])
            for page, held in sorted(kernel.caches[hand].items()) if page in pages
        ])

    def deeds_of(self, kernel, naming):
        """Return the deeds that are under way."""
        found = []
        for agent in sorted(kernel.under_way):
            deed, rest, parts = kernel.under_way[agent]
            found.append((agent, deed, rest, needed_of(deed, rest, parts, naming)))
        return tuple(found)

    def contents_of(self, kernel, naming):
        """Return what frames and slots have."""
        if self.by_names:
            return naming.all_contents()
        if self.filled_first:
            return (naming.all_contents(), tuple(kernel.frame_store.taken()), tuple(kernel.slot_store.taken()))
        return (kernel.frame_store.shape(), kernel.slot_store.shape())

    def mark(self, kernel, told):
        """Return the mark of a kernel, with what is to be told of its calls; None if names are not enough for it."""
        naming = Naming(kernel, self.by_names)
        tables = self.tables_of(kernel, naming)
        caches = tuple([self.cache_of(kernel, hand, naming) for hand in self.hand_row if hand in kernel.caches])
        under_way = self.deeds_of(kernel, naming)
        if self.by_names and naming.is_any_free():
            return None
        return (
            told, tables, caches, under_way, self.contents_of(kernel, naming), tuple(kernel.pipes), kernel.outs_done,
            tuple([kernel.rows.get(row_name, ()) for row_name in self.row_names]),
            tuple(sorted(kernel.rested)), tuple(sorted(kernel.closers)), tuple(sorted(kernel.present.items())),
            tuple(sorted(kernel.kept_names.items())), tuple(sorted(kernel.flagged)), tuple(sorted(kernel.ended)),
        )


def needed_of(deed, rest, parts, naming):
    """Return those of the parts of a deed under way that its other steps need."""
    if deed == "drop":
        entries = parts[2] if "lower" in rest else ()
        return (parts[0], parts[1], tuple([(entry[0], naming.named(entry[0], entry[1])) for entry in entries]))
    if deed not in NEEDED_PARTS:
        return parts
    at, sort, step = FILLED_PARTS[deed]
    if step in rest:
        naming.leave_out_values(sort, parts[at])
    needed = [
        naming.named(sort_of, parts[k]) if any([other in rest for other in steps]) else None
        for k, sort_of, steps in NEEDED_PARTS[deed]
    ]
    return (parts[0], parts[1], *needed)
