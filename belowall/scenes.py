"""Scenes: what a work tells once and for all, worked out for the machines."""

from belowall.works import calls_by_hand, names_by_process, pages_in

# Any work will do where a machine is made just to be given the state of another one.
IDLE_WORK = (((),), (), ())


def sorted_by_key(found):
    """Return a dict with its keys ascending."""
    return {at: found[at] for at in sorted(found)}


class Scene:
    """The hands, processes, pages and rooms of a work, all ascending; it never changes."""

    def __init__(self, work):
        self.calls = calls_by_hand(work)
        self.names = sorted_by_key(names_by_process(work))
        self.rooms = work[1]
        self.outs = work[2]
        self.all_pages = pages_in(work)
        self.mates = {process: [] for process in self.names}
        for hand in self.calls:
            self.mates[hand[:-1]].append(hand)
