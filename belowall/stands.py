"""How the plain machine stands, in tuples that never change, and where each doing leads from there.

A STAND is a tuple (counts, bodies, pipes). Counts tell for each hand of the work, ascending, how many of its calls are
done, None till it comes to be. Bodies tell for each process of the work, ascending, None if it is not there, else
(parent, memory, is_up, has_ended): the place of its parent among the processes, for each page of the work None or its
two values, whether its flag is up, and whether it has ended. The pipes are as in belowall.pipes.
"""

from belowall.pipes import EMPTY_PIPE, after_pipe_call, could_go_on
from belowall.scenes import Scene

BREAKABLE_WORDS = ("put", "take", "drain", "wait")


def with_item(row, at, item):
    """Return a tuple with another item at a place."""
    return (*row[:at], item, *row[at + 1:])


class Cast:
    """A work by places: its hands, processes and pages by where they stand in the ascending lists of all of them."""

    def __init__(self, work):
        scene = Scene(work)
        self.row_of_hands = list(scene.calls)
        self.row_of_processes = list(scene.names)
        self.hand_at = {hand: h for h, hand in enumerate(self.row_of_hands)}
        self.process_at = {process: p for p, process in enumerate(self.row_of_processes)}
        self.page_at = {page: at for at, page in enumerate(scene.all_pages)}
        self.row_of_pages = scene.all_pages
        self.call_rows = list(scene.calls.values())
        self.name_row = list(scene.names.values())
        self.rooms = scene.rooms
        self.home_row = [self.process_at[hand[:-1]] for hand in self.row_of_hands]
        self.mate_rows = [[self.hand_at[mate] for mate in mates] for mates in list(scene.mates.values())]


def first_stand(cast):
    """Return the stand at the beginning of a work."""
    counts = (None,) * len(cast.row_of_hands)
    bodies = (None,) * len(cast.row_of_processes)
    memory = (None,) * len(cast.row_of_pages)
    return started(cast, (counts, bodies, (EMPTY_PIPE,) * len(cast.rooms)), 0, (None, memory, False, False))


def started(cast, stand, p, body):
    """Return the stand where a process has come to be there."""
    counts, bodies, pipes = stand
    for h in cast.mate_rows[p]:
        counts = with_item(counts, h, 0)
    return (counts, with_item(bodies, p, body), pipes)


def next_call(cast, stand, h):
    """Return the next call of a hand, or None if there is none, or no such hand yet."""
    count = stand[0][h]
    calls = cast.call_rows[h]
    return calls[count] if count is not None and count < len(calls) else None


def has_child(stand, p):
    """Tell whether a process has a child."""
    return p in [body[0] for body in stand[1] if body is not None]


def ended_children(cast, stand, p):
    """Return the dict from the names of the children of a process that have ended to their places."""
    found = {}
    for child, body in enumerate(stand[1]):
        if body is not None and body[0] == p and body[3]:
            found[cast.name_row[child]] = child
    return found


def place_there(cast, stand, name):
    """Return the place of the process with this name that is there, or None."""
    for p, body in enumerate(stand[1]):
        if body is not None and cast.name_row[p] == name:
            return p
    return None


def can_do(cast, stand, h):
    """Tell whether the next call of a hand can be done."""
    call = next_call(cast, stand, h)
    if call is None:
        return False
    if call[0] in ("put", "take", "drain"):
        return could_go_on(stand[2][call[1]], cast.rooms[call[1]], call[0])
    if call[0] == "wait":
        home = cast.home_row[h]
        return not has_child(stand, home) or len(ended_children(cast, stand, home)) > 0
    return True


def can_break_off(cast, stand, h):
    """Tell whether the next call of a hand can be broken off."""
    call = next_call(cast, stand, h)
    return call is not None and call[0] in BREAKABLE_WORDS and stand[1][cast.home_row[h]][2]


def has_ended(cast, stand, p):
    """Tell whether a process has ended, be it there still or not."""
    if stand[0][cast.mate_rows[p][0]] is None:
        return False
    body = stand[1][p]
    return body is None or body[3]


def can_end(cast, stand, p):
    """Tell whether a process may end."""
    body = stand[1][p]
    if body is None or body[3]:
        return False
    return all([stand[0][h] == len(cast.call_rows[h]) for h in cast.mate_rows[p]])


def after_page_call(cells, call):
    """Return what is in the place of a page, None or its values, behind a call of it, and what the call tells."""
    if call[0] == "map":
        return ((0, 0), "done") if cells is None else (cells, "there")
    if cells is None:
        return (None, "none")
    if call[0] == "drop":
        return (None, "done")
    if call[0] == "read":
        return (cells, cells[call[2]])
    return (with_item(cells, call[2], call[3]), "done")


def page_call_done(cast, stand, p, call):
    """Return the stand behind a call of a page, and what the call tells."""
    counts, bodies, pipes = stand
    parent, memory, is_up, ended = bodies[p]
    at = cast.page_at[call[1]]
    cells, telling = after_page_call(memory[at], call)
    body = (parent, with_item(memory, at, cells), is_up, ended)
    return ((counts, with_item(bodies, p, body), pipes), telling)


def pipe_call_done(stand, call):
    """Return the stand behind a call of a pipe, and what the call tells."""
    counts, bodies, pipes = stand
    pipe, telling = after_pipe_call(pipes[call[1]], call)
    return ((counts, bodies, with_item(pipes, call[1], pipe)), telling)


def forked(cast, stand, h, number, call):
    """Return the stand behind a fork by a hand with the call of this number, and what it tells."""
    if place_there(cast, stand, call[1]) is not None:
        return (stand, "there")
    home = cast.home_row[h]
    child = (*cast.row_of_hands[h], number)
    body = (home, stand[1][home][1], False, False)
    return (started(cast, stand, cast.process_at[child], body), "done")


def sent(cast, stand, name):
    """Return the stand behind a send to a name, and what it tells."""
    p = place_there(cast, stand, name)
    if p is None:
        return (stand, "none")
    counts, bodies, pipes = stand
    parent, memory, _, ended = bodies[p]
    return ((counts, with_item(bodies, p, (parent, memory, not ended, ended)), pipes), "done")


def waited(cast, stand, p, name):
    """Return the stand behind a wait of a process, and what it tells: the least name, if none is handed in."""
    found = ended_children(cast, stand, p)
    if not found:
        return (stand, "none")
    telling = min(list(found)) if name is None else name
    counts, bodies, pipes = stand
    return ((counts, with_item(bodies, found[telling], None), pipes), telling)


def done(cast, stand, h, name):
    """Return the stand behind the next call of a hand, which can be done, and what it tells."""
    counts, bodies, pipes = stand
    number = counts[h]
    call = cast.call_rows[h][number]
    behind = (with_item(counts, h, number + 1), bodies, pipes)
    match call[0]:
        case "map" | "drop" | "read" | "write":
            return page_call_done(cast, behind, cast.home_row[h], call)
        case "fork":
            return forked(cast, behind, h, number, call)
        case "send":
            return sent(cast, behind, call[1])
        case "wait":
            return waited(cast, behind, cast.home_row[h], name)
        case _:
            return pipe_call_done(behind, call)


def broken_off(cast, stand, h):
    """Return the stand behind the next call of a hand, which can be broken off."""
    counts, bodies, pipes = stand
    home = cast.home_row[h]
    parent, memory, _, ended = bodies[home]
    body = (parent, memory, False, ended)
    return (with_item(counts, h, counts[h] + 1), with_item(bodies, home, body), pipes)


def ways_of_call(cast, stand, h):
    """Return the list of tuples (word, telling, stand behind) in which the next call of a hand can be done."""
    found = []
    if can_do(cast, stand, h):
        call = next_call(cast, stand, h)
        names = ended_children(cast, stand, cast.home_row[h]) if call[0] == "wait" else {}
        for name in list(names) or [None]:
            behind, telling = done(cast, stand, h, name)
            found.append(("do", telling, behind))
    if can_break_off(cast, stand, h):
        found.append(("break", "broken", broken_off(cast, stand, h)))
    return found


def ended_behind(stand, p):
    """Return the stand where a process, which may end, has ended."""
    counts, bodies, pipes = stand
    found = []
    for child, body in enumerate(bodies):
        if child == p:
            found.append((body[0], (None,) * len(body[1]), False, True))
        elif body is not None and body[0] == p:
            found.append((0, body[1], body[2], body[3]))
        else:
            found.append(body)
    return (counts, tuple(found), pipes)
