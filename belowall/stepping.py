"""Steps: which agents can do one, and what it does."""

from belowall.access import fault, reached
from belowall.ends import exit_step
from belowall.kernel import Kernel, PAGER
from belowall.lists import await_step, close_step, is_asleep, send_step
from belowall.locks import is_barred, process_to_put_out
from belowall.pagedeeds import (
    found_by_copy, found_by_drop, found_by_fetch, found_by_map, found_by_out, make_writable, page_step,
)
from belowall.scenes import Scene


def beginning(plan, work):
    """Return the kernel at the beginning of a work: the first process is there, without pages."""
    kernel = Kernel(plan, Scene(work))
    kernel.start((), None, {})
    return kernel


def reached_by(kernel, hand, call):
    """Return the frame that a read or write of a hand comes to, None for a fault, and the cache behind it."""
    return reached(kernel.caches[hand], kernel.tables[hand[:-1]], call[1], call[0] == "write")


def has_more(kernel, agent):
    """Tell whether an agent, a hand or the pager, has a next step, be it barred or not."""
    if agent in kernel.under_way or agent in kernel.closers:
        return True
    if agent == PAGER:
        return kernel.outs_done < len(kernel.scene.outs)
    return kernel.next_call(agent) is not None and not is_asleep(kernel, agent)


def is_plain_access(kernel, agent):
    """Tell whether the next step of an agent that is in no deed is an access that is no fault."""
    call = None if agent == PAGER else kernel.next_call(agent)
    return call is not None and call[0] in ("read", "write") and reached_by(kernel, agent, call)[0] is not None


def can_step(kernel, agent):
    """Tell whether an agent, a hand that has come to be or the pager, can do a step."""
    if agent in kernel.under_way:
        return True
    if not has_more(kernel, agent):
        return False
    return is_plain_access(kernel, agent) or not is_barred(kernel, agent)


def do_step(kernel, agent):
    """Do a step of an agent that can do one, and return the deed and the word."""
    if agent in kernel.under_way:
        return go_on(kernel, agent)
    if agent == PAGER:
        return begin_out(kernel)
    if agent in kernel.closers:
        return begin_closing(kernel, agent)
    return begin_call(kernel, agent, kernel.next_call(agent))


def begin(kernel, agent, deed, parts):
    """Begin a deed with its first step."""
    order = kernel.plan.order(deed)
    kernel.under_way[agent] = (deed, (*order, "rest") if deed == "await" else order, parts)
    return go_on(kernel, agent)


def go_on(kernel, agent):
    """Do the next step of a deed."""
    deed, rest, parts = kernel.under_way[agent]
    kernel.under_way[agent] = (deed, rest[1:], parts)
    match deed:
        case "await":
            await_step(kernel, agent, rest[0])
        case "close":
            close_step(kernel, rest[0], parts[0])
        case "send":
            send_step(kernel, rest[0], parts[0])
        case "exit":
            exit_step(kernel, rest[0], parts[0])
        case _:
            page_step(kernel, deed, rest[0], parts)
    if not kernel.under_way[agent][1]:
        finish(kernel, agent)
    return (deed, rest[0])


def finish(kernel, agent):
    """Let a deed be over that has no step left."""
    deed, _, parts = kernel.under_way.pop(agent)
    match deed:
        case "copy" | "fetch":
            pass
        case "out":
            kernel.outs_done += 1
        case "exit":
            del kernel.closers[agent]
        case "await":
            finish_await(kernel, agent, parts)
        case _:
            # A hand that closes its process drops its pages by no call.
            if agent not in kernel.closers:
                kernel.tell(agent, "done")


def finish_await(kernel, hand, parts):
    """Let an await be over, which has told something, or rests."""
    if parts:
        kernel.tell(hand, parts[0])
    else:
        kernel.rested[hand] = True


def told_at_once(kernel, hand, telling, deed, word):
    """Let the call of a hand be done in one step, and return the deed and the word."""
    kernel.tell(hand, telling)
    return (deed, word)


def begin_out(kernel):
    """Do the next of the outs, or nothing in its place."""
    _, page = kernel.scene.outs[kernel.outs_done]
    process = process_to_put_out(kernel)
    entry = None if process is None else kernel.tables[process].get(page)
    if entry is None or entry[0] != "in":
        kernel.outs_done += 1
        return ("out", "skip")
    return begin(kernel, PAGER, "out", found_by_out(kernel, process, page))


def begin_closing(kernel, hand):
    """Begin what comes next of the closing of a process."""
    process = hand[:-1]
    pages = sorted(kernel.tables[process])
    if pages:
        return begin(kernel, hand, "drop", found_by_drop(kernel, process, pages))
    return begin(kernel, hand, "exit", (process,))


def begin_call(kernel, hand, call):
    """Begin a call of a hand."""
    process = hand[:-1]
    match call[0]:
        case "read" | "write":
            return access(kernel, hand, call)
        case "map":
            if call[1] in kernel.tables[process]:
                return told_at_once(kernel, hand, "there", "map", "there")
            return begin(kernel, hand, "map", found_by_map(kernel, process, call[1]))
        case "drop":
            if call[1] not in kernel.tables[process]:
                return told_at_once(kernel, hand, "none", "drop", "none")
            return begin(kernel, hand, "drop", found_by_drop(kernel, process, [call[1]]))
        case "fork":
            if call[1] in kernel.present:
                return told_at_once(kernel, hand, "there", "fork", "there")
            return begin(kernel, hand, "fork", (process, (*hand, len(kernel.tellings[hand]))))
        case "send":
            if call[1] not in kernel.present:
                return told_at_once(kernel, hand, "none", "send", "none")
            return begin(kernel, hand, "send", (kernel.present[call[1]],))
        case "close":
            return begin(kernel, hand, "close", (call[1],))
        case _:
            kernel.rested.pop(hand, None)
            return begin(kernel, hand, "await", ())


def access(kernel, hand, call):
    """Do an access, or begin what its fault asks for."""
    frame, cache = reached_by(kernel, hand, call)
    if frame is None:
        return begin_fault(kernel, hand, call[1])
    kernel.caches[hand] = cache
    if call[0] == "read":
        return told_at_once(kernel, hand, kernel.frame_store.values_of(frame)[call[2]], "access", "done")
    kernel.frame_store.change(frame, call[2], call[3])
    return told_at_once(kernel, hand, "done", "access", "done")


def begin_fault(kernel, hand, page):
    """Begin what a fault asks for."""
    process = hand[:-1]
    match fault(kernel.tables[process], kernel.frame_store, page):
        case "none":
            return told_at_once(kernel, hand, "none", "fault", "none")
        case "open":
            make_writable(kernel, process, page)
            return ("fault", "open")
        case "fetch":
            return begin(kernel, hand, "fetch", found_by_fetch(kernel, process, page))
        case _:
            return begin(kernel, hand, "copy", found_by_copy(kernel, process, page))
