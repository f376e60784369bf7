"""Locks: what a deed has to wait for till it can begin."""

from belowall.kernel import PAGER
from belowall.pagedeeds import STEPS_OF_PAGES

# The calls that look at the table, if their access is a fault.
PAGE_CALLS = ("map", "drop", "read", "write", "fork")


def is_held(kernel, process):
    """Tell whether the lock of a process is held."""
    doings = list(kernel.under_way.values())
    return process in [parts[0] for deed, _, parts in doings if deed in STEPS_OF_PAGES]


def is_being_forked(kernel, name):
    """Tell whether a fork to a name is under way."""
    doings = list(kernel.under_way.values())
    return name in [kernel.scene.names[parts[1]] for deed, _, parts in doings if deed == "fork"]


def process_to_put_out(kernel):
    """Return the process that is there, has not ended, and has the name of the next out, or None."""
    name, _ = kernel.scene.outs[kernel.outs_done]
    process = kernel.present.get(name)
    return None if process in kernel.ended else process


def lock_to_hold(kernel, agent):
    """Return the process whose lock an agent that is in no deed asks for by its next step, or None."""
    if agent == PAGER:
        return process_to_put_out(kernel)
    call = kernel.next_call(agent)
    if call is None:
        return agent[:-1] if kernel.tables[agent[:-1]] else None
    return agent[:-1] if call[0] in PAGE_CALLS else None


def is_barred(kernel, agent):
    """Tell whether an agent that is in no deed, and whose next step is no access, waits for a lock or a name."""
    if kernel.plan.lock == "all":
        return len(kernel.under_way) > 0
    process = lock_to_hold(kernel, agent)
    if process is not None and is_held(kernel, process):
        return True
    call = None if agent == PAGER else kernel.next_call(agent)
    return call is not None and call[0] == "fork" and is_being_forked(kernel, call[1])
