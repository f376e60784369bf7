"""Saves: what is restored behind a crash of what was saved, one row of values behind another."""

from belowall.tapes import SINK, base_and_last, values_that_can_be

WORDS_ONCE = ("data", "mark", "tell")

MOST_SINKS = 4


def is_save_order(thing):
    """Tell whether thing, any value, is a save order."""
    if not isinstance(thing, tuple) or not all([isinstance(word, str) for word in thing]):
        return False
    words = [word for word in thing if word != "sink"]
    return sorted(words) == sorted(WORDS_ONCE) and len(thing) - len(words) <= MOST_SINKS


def blocks_of_half(many, number):
    """Return the blocks of the half to which the save with a number goes, the rows being of such a length."""
    first = 1 + many * (number % 2)
    return list(range(first, first + many))


def entries_of(word, number, row):
    """Return the entries that a step of the save with a number writes."""
    if word == "data":
        return [("write", block, value) for block, value in zip(blocks_of_half(len(row), number), row)]
    if word == "mark":
        return [("write", 0, number + 1)]
    return [SINK] if word == "sink" else []


def save_tape(order, rows):
    """Return the tape of the saves of all rows."""
    return [entry for number, row in enumerate(rows) for word in order for entry in entries_of(word, number, row)]


def tells_at(order, rows):
    """Return the list of how many entries of the tape stand ahead of each telling."""
    found = []
    many = 0
    for number, row in enumerate(rows):
        for word in order:
            many += len(entries_of(word, number, row))
            if word == "tell":
                found.append(many)
    return found


def restored(left, many):
    """Return the list of the values that are restored from what a crash leaves, or None if there is no mark."""
    if 0 not in left:
        return None
    return [left.get(block, 0) for block in blocks_of_half(many, left[0] - 1)]


def stands_between(order, first, word, second):
    """Tell whether in an order a word stands behind the first and ahead of the second."""
    return word in order[order.index(first):order.index(second)]


def is_sure_order(order):
    """Tell whether a sink stands between the data and the mark, and one between the mark and the telling."""
    return stands_between(order, "data", "sink", "mark") and stands_between(order, "mark", "sink", "tell")


def values_read(values):
    """Return the ascending list of the different values that are read of a block, 0 where it is not written."""
    return sorted(set([0 if value is None else value for value in values]))


def all_rows(options):
    """Return all tuples that have of each list of options one."""
    found = [()]
    for values in options:
        found = [(*row, value) for row in found for value in values]
    return found


def rows_that_can_be(tape, many):
    """Return the dict of the tuples that can be restored behind late crashes of a tape, () where nothing can be."""
    base, last = base_and_last(tape)
    found = {}
    for mark in values_that_can_be(base, last, 0):
        if mark is None:
            found[()] = True
        else:
            # Each block has what it has whatever comes down for the others.
            options = [values_that_can_be(base, last, block) for block in blocks_of_half(many, mark - 1)]
            for row in all_rows([values_read(values) for values in options]):
                found[row] = True
    return found


def outcomes(order, rows):
    """Return the ascending list of the tuples (how many saves were told, what is restored) that can be."""
    tape = save_tape(order, rows)
    tells = tells_at(order, rows)
    found = {}
    for written in range(len(tape) + 1):
        told = len([at for at in tells if at <= written])
        for row in rows_that_can_be(tape[:written], len(rows[0])):
            found[told, row] = True
    return sorted(found)


def is_wrong(rows, told, row):
    """Tell whether what is restored is neither the last save that was told nor a later one."""
    good = [tuple(other) for other in rows[told:]]
    good.append(tuple(rows[told - 1]) if told else ())
    return row not in good


def bad_outcome(order, rows):
    """Return the least outcome that is wrong, or None."""
    wrong = [(told, row) for told, row in outcomes(order, rows) if is_wrong(rows, told, row)]
    return wrong[0] if wrong else None
