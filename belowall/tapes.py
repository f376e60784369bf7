"""Tapes: what a crash leaves of what was written.

A STRETCH is what stands between two sinks of a tape that follow one another, ahead of the first or behind the last
one. The writes of a stretch may come down in any order, but behind all those of the stretches ahead of it.
"""

from belowall.kinds import is_count

SINK = ("sink",)


def stretches(tape):
    """Return the list of the stretches of a tape, each a list of the indexes of its writes."""
    found = [[]]
    for at, entry in enumerate(tape):
        if entry == SINK:
            found.append([])
        else:
            found[-1].append(at)
    return found


def is_ascending(row):
    """Tell whether each of a row of integers is less than the next one."""
    return all([one < other for one, other in zip(row, row[1:])])


def is_crash(tape, thing):
    """Tell whether thing, any value, is a crash of a tape."""
    if not isinstance(thing, tuple) or not all([is_count(at) for at in thing]) or not is_ascending(thing):
        return False
    rest = list(thing)
    is_whole = True
    for stretch in stretches(tape):
        down = [at for at in stretch if at in thing]
        if down and not is_whole:
            return False
        is_whole = is_whole and len(down) == len(stretch)
        rest = [at for at in rest if at not in down]
    return not rest


def parts_of(row):
    """Return all parts of a row, tuples in its order."""
    found = [()]
    for at in row:
        found = found + [(*part, at) for part in found]
    return found


def crashes(tape):
    """Return the ascending list of the crashes of a tape."""
    found = [()]
    whole = ()
    for stretch in stretches(tape):
        found.extend([(*whole, *part) for part in parts_of(stretch) if part])
        whole = (*whole, *stretch)
    return sorted(found)


def left(tape, crash):
    """Return the dict from the blocks that a crash leaves to their values."""
    found = {}
    for at in crash:
        _, block, value = tape[at]
        found[block] = value
    return {written: found[written] for written in sorted(found)}


def values_that_can_be(base, writes, block):
    """Return the list of what a block can have, None if unwritten, where any of these writes come down on a base."""
    return [base.get(block)] + [value for _, at, value in writes if at == block]


def can_leave(tape, wish):
    """Tell whether a crash leaves for the blocks of a wish just their values, None for a block that is not written."""
    whole = ()
    for stretch in stretches(tape):
        base = left(tape, whole)
        writes = [tape[at] for at in stretch]
        if all([value in values_that_can_be(base, writes, block) for block, value in wish.items()]):
            return True
        whole = (*whole, *stretch)
    return False


def base_and_last(tape):
    """Return what all late crashes leave at least, and the writes of which they may leave any."""
    rows = stretches(tape)
    base = left(tape, [at for stretch in rows[:-1] for at in stretch])
    return (base, [tape[at] for at in rows[-1]])


def sure(tape):
    """Return the dict from the blocks that are written so in all that late crashes leave to their values."""
    base, last = base_and_last(tape)
    return {
        block: value for block, value in base.items()
        if all([other == value for other in values_that_can_be(base, last, block)])
    }


def is_kept(tape, one, other):
    """Tell whether a sink stands between two writes."""
    return SINK in tape[one:other]


def keeps(tape, pairs):
    """Tell whether a tape keeps all pairs."""
    return all([is_kept(tape, one, other) for one, other in pairs])


def with_sinks(tape, places):
    """Return a tape with a sink ahead of each entry with one of these indexes."""
    found = []
    for at, entry in enumerate(tape):
        if at in places:
            found.append(SINK)
        found.append(entry)
    return found


def other_of(pair):
    """Return the second write of a pair."""
    return pair[1]


def count_of_places(pairs):
    """Return how few sinks keep all of these pairs, none of which is kept."""
    number = 0
    last = 0
    # A sink is put as late as the pair lets it that ends first of those that are left.
    for one, other in sorted(pairs, key=other_of):
        if last <= one:
            last = other
            number += 1
    return number


def not_kept_by(pairs, place):
    """Return those of the pairs that a sink at a place does not keep."""
    return [(one, other) for one, other in pairs if not one < place <= other]


def fewest_sinks(tape, pairs):
    """Return the least of the tuples of fewest places for which the tape with sinks keeps all pairs."""
    rest = [(one, other) for one, other in pairs if not is_kept(tape, one, other)]
    number = count_of_places(rest)
    places = []
    while rest:
        # The first sink stands in the pair that ends first; the least place there behind which few enough are left.
        first = min([other for _, other in rest])
        places.append(min([
            place for place in range(1, first + 1)
            if count_of_places(not_kept_by(rest, place)) == number - len(places) - 1
        ]))
        rest = not_kept_by(rest, places[-1])
    return tuple(places)
