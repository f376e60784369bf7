"""How a hand comes to the frame of a page: by its cache, by the table, or by a fault."""


def lets_by(writable, is_write):
    """Tell whether a cache or an entry lets an access by."""
    return writable or not is_write


def reached(cache, table, page, is_write):
    """Return the frame by which an access is done, None for a fault, and the cache behind it."""
    held = {at: cache[at] for at in sorted(cache)}
    if page in held and lets_by(held[page][1], is_write):
        return (held[page][0], held)
    entry = table.get(page)
    if entry is None or entry[0] != "in" or not lets_by(entry[2], is_write):
        return (None, held)
    behind = {**held, page: (entry[1], entry[2])}
    return (entry[1], {at: behind[at] for at in sorted(behind)})


def fault(table, store, page):
    """Return which deed a fault asks for, or "none" or "open"."""
    if page not in table:
        return "none"
    entry = table[page]
    if entry[0] == "out":
        return "fetch"
    # A frame that no other entry has need not be copied.
    return "open" if store.count_of(entry[1]) == 1 else "copy"
