"""Lost machines: nobody can do a step, though somebody asleep could go on."""

from belowall.lists import can_be_tried, is_asleep


def sleepers(machine):
    """Return the ascending list of the hands that are asleep."""
    return [hand for hand in machine.hands() if is_asleep(machine.kernel, hand)]


def could_go_on(kernel, hand):
    """Tell whether the call of a hand that is asleep could be done by a try, or its process's flag is up."""
    return hand[:-1] in kernel.flagged or can_be_tried(kernel, hand, kernel.next_call(hand))


def is_lost(machine):
    """Tell whether no agent can do a step, and somebody sleeps who could go on."""
    if machine.able():
        return False
    return any([could_go_on(machine.kernel, hand) for hand in sleepers(machine)])
