"""Runs: a plan and a work, led by a schedule."""

from belowall.kernel import PAGER
from belowall.machine import Machine
from belowall.stepping import beginning, can_step, do_step

MOST_ENTRIES = 800

# What stands in the place of a call's number where a step belongs to the closing of a process.
CLOSING = "closing"


def can_be_led(kernel, agent):
    """Tell whether an agent, be it one of the work or not, can do a step."""
    return (agent == PAGER or agent in kernel.tellings) and can_step(kernel, agent)


def number_of_call(kernel, agent):
    """Return the number of the call to which the next step of an agent belongs, CLOSING, or None for the pager."""
    if agent == PAGER:
        return None
    return CLOSING if agent in kernel.closers else len(kernel.tellings[agent])


def led(kernel, schedule):
    """Lead a kernel by a schedule, and return the list of tuples (index, agent, number, deed, word) of the steps."""
    found = []
    for index, agent in enumerate(schedule):
        if can_be_led(kernel, agent):
            number = number_of_call(kernel, agent)
            deed, word = do_step(kernel, agent)
            found.append((index, agent, number, deed, word))
    return found


def spans_of_calls(kernel, rows):
    """Return the dict from (hand, number) of each call begun to tuples (first, last, telling), by the steps done."""
    found = {}
    for index, agent, number, _, _ in rows:
        if number is not None and number != CLOSING:
            first = found[agent, number][0] if (agent, number) in found else index
            # Each step is the last one for now; a further one, if there is any, comes in its place.
            is_done = number < len(kernel.tellings[agent])
            found[agent, number] = (first, index, kernel.tellings[agent][number]) if is_done else (first, None, None)
    return found


def spans_of_closings(kernel, rows):
    """Return the dict from each process that a hand has begun to close to tuples (first, last), by the steps done."""
    found = {}
    for index, agent, number, _, _ in rows:
        if number == CLOSING:
            process = agent[:-1]
            first = found[process][0] if process in found else index
            found[process] = (first, None if agent in kernel.closers else index)
    return found


def run(plan, work, schedule):
    """Return the Machine behind a run."""
    machine = Machine(plan, work)
    led(machine.kernel, schedule)
    return machine


def steps(plan, work, schedule):
    """Return the list of tuples (index, agent, deed, word) of the steps done in a run."""
    rows = led(beginning(plan, work), schedule)
    return [(index, agent, deed, word) for index, agent, _, deed, word in rows]


def history(plan, work, schedule):
    """Return the ascending list of tuples (hand, number, first, last, telling) of the calls that have begun."""
    kernel = beginning(plan, work)
    spans = spans_of_calls(kernel, led(kernel, schedule))
    return [(*at, *spans[at]) for at in sorted(spans)]


def closings(plan, work, schedule):
    """Return the ascending list of tuples (process, first, last) of the closings that have begun."""
    kernel = beginning(plan, work)
    spans = spans_of_closings(kernel, led(kernel, schedule))
    return [(process, *spans[process]) for process in sorted(spans)]


def led_on(plan, work, schedule):
    """Return the schedule led on by the least agent that can do a step, till the run is whole, or long enough."""
    machine = run(plan, work, schedule)
    found = list(schedule)
    able = machine.able()
    while able and len(found) < MOST_ENTRIES:
        machine.step(able[0])
        found.append(able[0])
        able = machine.able()
    return found
