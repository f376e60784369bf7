"""The deeds with pages: what each finds when it begins, and what its steps do."""

# What a deed finds are its parts; the process whose lock it asks for stands first in them.


def found_by_map(kernel, process, page):
    """Return the parts of a map: it takes a frame."""
    return (process, page, kernel.frame_store.take())


def found_by_copy(kernel, process, page):
    """Return the parts of a copy: it finds a frame, and takes another one."""
    return (process, page, kernel.tables[process][page][1], kernel.frame_store.take())


def found_by_fetch(kernel, process, page):
    """Return the parts of a fetch: it finds a slot, and takes a frame."""
    return (process, page, kernel.tables[process][page][1], kernel.frame_store.take())


def found_by_out(kernel, process, page):
    """Return the parts of an out: it finds a frame, and takes a slot."""
    return (process, page, kernel.tables[process][page][1], kernel.slot_store.take())


def found_by_drop(kernel, process, pages):
    """Return the parts of a drop of pages: it finds their entries."""
    return (process, tuple(pages), tuple([kernel.tables[process][page] for page in pages]))


def store_of(kernel, entry):
    """Return the frames or the slots, whichever an entry is of."""
    return kernel.frame_store if entry[0] == "in" else kernel.slot_store


def unwritable(table):
    """Return a table with False in the place of each writable."""
    return {page: ("in", entry[1], False) if entry[0] == "in" else entry for page, entry in table.items()}


def make_writable(kernel, process, page):
    """Let an entry be writable."""
    kernel.set_entry(process, page, ("in", kernel.tables[process][page][1], True))


def map_step(kernel, step, parts):
    """Do a step of a map."""
    process, page, frame = parts
    if step == "wipe":
        kernel.frame_store.fill(frame, [0, 0])
    else:
        kernel.set_entry(process, page, ("in", frame, True))


def copy_step(kernel, step, parts):
    """Do a step of a copy."""
    process, page, old, new = parts
    match step:
        case "shut":
            kernel.remove_entries(process, [page])
        case "flush":
            kernel.flush(process, [page])
        case "fill":
            kernel.frame_store.fill(new, kernel.frame_store.values_of(old))
        case "put":
            kernel.set_entry(process, page, ("in", new, True))
        case _:
            kernel.frame_store.lower_one(old)


def drop_step(kernel, step, parts):
    """Do a step of a drop."""
    process, pages, entries = parts
    match step:
        case "shut":
            kernel.remove_entries(process, pages)
        case "flush":
            kernel.flush(process, pages)
        case _:
            for entry in entries:
                store_of(kernel, entry).lower_one(entry[1])


def out_step(kernel, step, parts):
    """Do a step of an out."""
    process, page, frame, slot = parts
    match step:
        case "shut":
            kernel.set_entry(process, page, ("out", slot))
        case "flush":
            kernel.flush(process, [page])
        case "save":
            kernel.slot_store.fill(slot, kernel.frame_store.values_of(frame))
        case _:
            kernel.frame_store.lower_one(frame)


def fetch_step(kernel, step, parts):
    """Do a step of a fetch."""
    process, page, slot, frame = parts
    match step:
        case "load":
            kernel.frame_store.fill(frame, kernel.slot_store.values_of(slot))
        case "put":
            kernel.set_entry(process, page, ("in", frame, True))
        case _:
            kernel.slot_store.lower_one(slot)


def fork_step(kernel, step, parts):
    """Do a step of a fork."""
    process, child = parts
    table = kernel.tables[process]
    match step:
        case "mark":
            kernel.tables[process] = unwritable(table)
        case "flush":
            kernel.empty_caches(process)
        case "raise":
            for entry in list(table.values()):
                store_of(kernel, entry).raise_one(entry[1])
        case _:
            kernel.start(child, kernel.scene.names[process], unwritable(table))


STEPS_OF_PAGES = {
    "copy": copy_step,
    "drop": drop_step,
    "fetch": fetch_step,
    "fork": fork_step,
    "map": map_step,
    "out": out_step,
}


def page_step(kernel, deed, step, parts):
    """Do a step of a deed with pages."""
    action = STEPS_OF_PAGES[deed]
    action(kernel, step, parts)
