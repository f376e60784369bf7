"""Lists of those who wait: awaits, closes and sends.

A ROW is a tuple of tuples (hand, is_called), in the order in which the hands joined; it never changes.
"""

from belowall.pipes import after_pipe_call, could_go_on


def without(row, hand):
    """Return a row without a hand."""
    return tuple([pair for pair in row if pair[0] != hand])


def joined(row, hand):
    """Return a row with a hand at its end, not called."""
    return (*without(row, hand), (hand, False))


def first_uncalled(row):
    """Return the first hand of a row that is not called, or None."""
    hands = [hand for hand, is_called in row if not is_called]
    return hands[0] if hands else None


def with_called(row, called):
    """Return a row in which these hands are called."""
    return tuple([(hand, is_called or hand in called) for hand, is_called in row])


def woken(row, sort):
    """Return a row in which nobody more, the first that is not called, or all are called."""
    if sort == "none":
        return row
    return with_called(row, [first_uncalled(row)] if sort == "one" else [hand for hand, _ in row])


def row_of_call(hand, call):
    """Tell in which row the hand stands that waits for a call."""
    if call[0] == "wait":
        return ("wait", hand[:-1])
    return ("put" if call[0] == "put" else "take", call[1])


def is_asleep(kernel, hand):
    """Tell whether a hand is asleep: it rested, and was not called since."""
    if hand not in kernel.rested:
        return False
    return (hand, False) in kernel.rows[row_of_call(hand, kernel.next_call(hand))]


def ended_child(kernel, process):
    """Return the child of a process that has ended and has the least name, or None."""
    names = {kernel.scene.names[child]: child for child in kernel.children(process) if child in kernel.ended}
    return names[min(list(names))] if names else None


def can_be_tried(kernel, hand, call):
    """Tell whether a put, take, drain or wait could be done by a try."""
    if call[0] == "wait":
        process = hand[:-1]
        return not kernel.children(process) or ended_child(kernel, process) is not None
    return could_go_on(kernel.pipes[call[1]], kernel.scene.rooms[call[1]], call[0])


def waited(kernel, process):
    """Do a wait that can be done, and return what it tells."""
    child = ended_child(kernel, process)
    if child is None:
        return "none"
    name = kernel.scene.names[child]
    del kernel.present[name]
    return name


def await_done(kernel, hand, telling, rest):
    """Let nothing but the rest be left of an await, which has told something."""
    row = row_of_call(hand, kernel.next_call(hand))
    kernel.rows[row] = without(kernel.rows[row], hand)
    kernel.under_way[hand] = ("await", rest, (telling,))


def try_call(kernel, hand, call):
    """Do what a call does, if it can be done."""
    if not can_be_tried(kernel, hand, call):
        return
    if call[0] == "wait":
        await_done(kernel, hand, waited(kernel, hand[:-1]), ())
        return
    pipe, telling = after_pipe_call(kernel.pipes[call[1]], call)
    is_moved = pipe != kernel.pipes[call[1]]
    kernel.pipes[call[1]] = pipe
    wakes = ("wake",) if is_moved and kernel.plan.wake(call[0]) != "none" else ()
    looks = ("left",) if kernel.plan.left else ()
    await_done(kernel, hand, telling, wakes + looks)


def heed_flag(kernel, hand, call):
    """Break off a call, if the flag is up."""
    if hand[:-1] not in kernel.flagged:
        return
    kernel.put_down_flag(hand[:-1])
    await_done(kernel, hand, "broken", ())
    if kernel.plan.passes:
        row = row_of_call(hand, call)
        kernel.rows[row] = woken(kernel.rows[row], "one")


def wake_others(kernel, call):
    """Call those who wait for what a put has brought, or a take or drain has made room for."""
    row = ("take" if call[0] == "put" else "put", call[1])
    kernel.rows[row] = woken(kernel.rows[row], kernel.plan.wake(call[0]))


def look_at_left(kernel, hand, call):
    """Call the first hand of the own kind, if what is left in the pipe lets it go on."""
    row = row_of_call(hand, call)
    if could_go_on(kernel.pipes[call[1]], kernel.scene.rooms[call[1]], call[0]):
        kernel.rows[row] = woken(kernel.rows[row], "one")


def await_step(kernel, hand, step):
    """Do a step of an await; by "rest" nothing is done but that the deed is over."""
    call = kernel.next_call(hand)
    match step:
        case "join":
            row = row_of_call(hand, call)
            kernel.rows[row] = joined(kernel.rows[row], hand)
        case "try":
            try_call(kernel, hand, call)
        case "heed":
            heed_flag(kernel, hand, call)
        case "wake":
            wake_others(kernel, call)
        case "left":
            look_at_left(kernel, hand, call)
        case _:
            pass


def close_step(kernel, step, pipe):
    """Do a step of a close."""
    if step == "seal":
        kernel.pipes[pipe], _ = after_pipe_call(kernel.pipes[pipe], ("close", pipe))
        return
    sort = kernel.plan.wake("close")
    for row in [("put", pipe), ("take", pipe)]:
        kernel.rows[row] = woken(kernel.rows[row], sort)


def send_step(kernel, step, process):
    """Do a step of a send to a process."""
    if step == "post":
        kernel.put_up_flag(process)
        return
    hands = kernel.scene.mates[process]
    for row in list(kernel.rows):
        kernel.rows[row] = with_called(kernel.rows[row], hands)
