"""Facts: what holds by a right plan wherever no agent is within a deed."""

from belowall.lists import is_asleep
from belowall.pipes import could_go_on


def entries_in(kernel):
    """Return the list of the entries in all tables of processes that have not ended."""
    tables = [table for process, table in kernel.tables.items() if process not in kernel.ended]
    return [entry for table in tables for entry in list(table.values())]


def writable_are_alone(kernel):
    """Tell whether each frame of a writable entry is in no other entry."""
    frames = [entry[1] for entry in entries_in(kernel) if entry[0] == "in"]
    writable = [entry[1] for entry in entries_in(kernel) if entry[0] == "in" and entry[2]]
    return all([frames.count(frame) == 1 for frame in writable])


def is_backed(table, page, held):
    """Tell whether what a cache has for a page is an entry of the table, writable if it is so in the cache."""
    frame, writable = held
    entry = table.get(page)
    return entry is not None and entry[0] == "in" and entry[1] == frame and (entry[2] or not writable)


def caches_are_backed(kernel):
    """Tell whether all that is in caches is in the tables."""
    return all([
        is_backed(kernel.tables[hand[:-1]], page, held)
        for hand, cache in kernel.caches.items() if hand[:-1] not in kernel.ended
        for page, held in cache.items()
    ])


def sleeps_for_nothing(kernel, row_name):
    """Tell whether in the row of a pipe a hand is asleep that could go on, and none is called."""
    word, pipe = row_name
    row = kernel.rows[row_name]
    if not could_go_on(kernel.pipes[pipe], kernel.scene.rooms[pipe], word):
        return False
    is_any_called = any([is_called for _, is_called in row])
    return not is_any_called and any([is_asleep(kernel, hand) for hand, _ in row])


def sleepers_are_called(kernel):
    """Tell whether in each list of a pipe in which a hand sleeps that could go on some hand is called."""
    rows = [row_name for row_name in kernel.rows if row_name[0] != "wait"]
    return not any([sleeps_for_nothing(kernel, row_name) for row_name in rows])


def entries_are_counted(kernel):
    """Tell whether the count of each frame and slot is at least the number of the entries in it."""
    entries = [entry[:2] for entry in entries_in(kernel)]
    stores = {"in": kernel.frame_store, "out": kernel.slot_store}
    return all([stores[sort].count_of(number) >= entries.count((sort, number)) for sort, number in entries])


def flags_are_heeded(kernel):
    """Tell whether no hand is asleep whose process's flag is up."""
    return not any([is_asleep(kernel, hand) for hand in kernel.tellings if hand[:-1] in kernel.flagged])


FACTS = {
    "alone": writable_are_alone,
    "cached": caches_are_backed,
    "called": sleepers_are_called,
    "counted": entries_are_counted,
    "heeded": flags_are_heeded,
}


def facts(machine):
    """Return the ascending list of the facts that are not so, or None if some agent is within a deed."""
    kernel = machine.kernel
    if kernel.under_way:
        return None
    found = []
    for word in sorted(FACTS):
        holds = FACTS[word]
        if not holds(kernel):
            found.append(word)
    return found
