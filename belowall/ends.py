"""Ends of processes."""

from belowall.lists import woken
from belowall.works import FIRST_NAME


def call_waiters(kernel, process):
    """Call all hands of a process that wait for children."""
    row = ("wait", process)
    kernel.rows[row] = woken(kernel.rows[row], "all")


def exit_step(kernel, step, process):
    """Do a step of the exit of a process; a wait may have told it already."""
    match step:
        case "adopt":
            for child in kernel.children(process):
                kernel.kept_names[child] = FIRST_NAME
        case "rouse":
            call_waiters(kernel, ())
        case "end":
            kernel.ended[process] = True
            kernel.put_down_flag(process)
        case _:
            parent = kernel.present.get(kernel.kept_names[process])
            if parent is not None:
                call_waiters(kernel, parent)
