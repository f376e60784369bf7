"""Lost machines: nobody can do a step, though somebody asleep could go on."""

from belowall.lists import can_be_tried, is_asleep


def sleepers(machine):
    """Return the ascending list of the hands that are asleep."""
    return [hand for hand in machine.hands() if is_asleep(machine.kernel, hand)]


def could_go_on(kernel, hand):
    """Tell whether the call of a hand that is asleep could be done by a try, or its process's flag is up."""
    return hand[:-1] in kernel.flagged or can_be_tried(kernel, hand, kernel.next_call(hand))


def is_any_lost(kernel):
    """Tell whether a hand is asleep that could go on."""
    return any([is_asleep(kernel, hand) and could_go_on(kernel, hand) for hand in kernel.tellings])


def is_lost(machine):
    """Tell whether no agent can do a step, and somebody sleeps who could go on."""
    return not machine.able() and is_any_lost(machine.kernel)
