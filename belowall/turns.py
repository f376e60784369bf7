"""Turns: whose steps have to be tried next, where all runs of a work are asked for.

A step is PRIVATE if it changes nothing that others look at or change till the next step of its agent. It may as well be
done right ahead of that one, as nothing is over with it: so behind it just its agent's next step has to be tried.
"""

from belowall.kernel import PAGER
from belowall.kinds import calls_within
from belowall.stepping import can_step

# What these steps change, tables and caches, is its own of a process with one hand that has calls left.
PRIVATE_STEPS = {
    "copy": ("shut", "flush", "put"),
    "drop": ("shut", "flush"),
    "fetch": ("put",),
    "fork": ("mark", "flush"),
    "map": ("put",),
}

# These take a frame with their first step, and which one they take depends on others.
TAKING_DEEDS = ("copy", "fetch", "map")


def is_left_alone(kernel, agent, process):
    """Tell whether no hand of a process but the agent has a call left."""
    return all([mate == agent or kernel.next_call(mate) is None for mate in kernel.scene.mates[process]])


class Turns:
    """Tells who has to be tried next, for the kernels of a work."""

    def __init__(self, work):
        self.is_waited = ("wait",) in calls_within(work[0])

    def is_private(self, kernel, agent, deed, done):
        """Tell whether the last of the steps done of a deed under way is private."""
        if deed == "exit":
            # Who keeps which name, and has ended without any page, matters to those alone who wait.
            return not self.is_waited
        if done[-1] not in PRIVATE_STEPS.get(deed, ()) or (len(done) == 1 and deed in TAKING_DEEDS):
            return False
        return is_left_alone(kernel, agent, kernel.under_way[agent][2][0])

    def agents(self, kernel):
        """Return the list of the agents that have to be tried."""
        for agent, (deed, rest, _) in kernel.under_way.items():
            if deed in PRIVATE_STEPS or deed == "exit":
                order = kernel.plan.order(deed)
                if self.is_private(kernel, agent, deed, order[:len(order) - len(rest)]):
                    return [agent]
        return [other for other in [PAGER] + sorted(kernel.tellings) if can_step(kernel, other)]
