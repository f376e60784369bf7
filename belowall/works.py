"""What stands in a work: its hands and processes by their tuples, its pages and its names."""

from belowall.errors import NoHand, NoProcess
from belowall.kinds import are_counts, calls_within, is_agent

FIRST_NAME = "root"

PAGE_WORDS = ("map", "drop", "read", "write")

NAME_WORDS = ("fork", "send")


def calls_by_hand(work):
    """Return the dict from all hands that stand in a work to their calls."""
    found = {}
    rest = [((), work[0])]
    while rest:
        process, hands = rest.pop()
        for m, calls in enumerate(hands):
            hand = (*process, m)
            found[hand] = calls
            rest.extend([((*hand, k), call[2]) for k, call in enumerate(calls) if call[0] == "fork"])
    return {at: found[at] for at in sorted(found)}


def names_by_process(work):
    """Return the dict from the tuples of all processes of a work to their names."""
    found = {(): FIRST_NAME}
    for hand, calls in calls_by_hand(work).items():
        for k, call in enumerate(calls):
            if call[0] == "fork":
                process = (*hand, k)
                found[process] = call[1]
    return found


def hands_in(work):
    """Return the ascending list of all hands that stand in a work."""
    return list(calls_by_hand(work))


def processes_in(work):
    """Return the ascending list of the tuples of all processes of a work."""
    return sorted(names_by_process(work))


def calls_of(work, hand):
    """Return the calls of a hand."""
    found = calls_by_hand(work)
    # The kind is asked first: (True,) would be found as (1,), and a list could not be looked up.
    if not is_agent(hand) or hand not in found:
        raise NoHand(hand)
    return found[hand]


def name_of(work, process):
    """Return the name of a process."""
    found = names_by_process(work)
    if not are_counts(process) or process not in found:
        raise NoProcess(process)
    return found[process]


def pages_in(work):
    """Return the ascending list of the pages in calls and outs."""
    called = [call[1] for call in calls_within(work[0]) if call[0] in PAGE_WORDS]
    return sorted(set(called + [page for _, page in work[2]]))


def names_in(work):
    """Return the ascending list of the names in calls and outs, and of the first process."""
    called = [call[1] for call in calls_within(work[0]) if call[0] in NAME_WORDS]
    return sorted(set([FIRST_NAME] + called + [name for name, _ in work[2]]))
