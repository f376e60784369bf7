"""All runs of a work, by whatever schedule."""

from belowall.lost import is_any_lost
from belowall.marks import Marks, are_filled_first
from belowall.runs import CLOSING, number_of_call
from belowall.shadows import Shadows
from belowall.stands import Cast, can_end, ended_behind, first_stand, ways_of_call, with_item
from belowall.stepping import beginning, do_step
from belowall.turns import Turns


def text_of(thing):
    """Return the text by which endings are sorted."""
    return repr(thing)


def kernel_behind(kernel, agent):
    """Return the kernel behind a step of an agent."""
    other = kernel.copied()
    do_step(other, agent)
    return other


def ways_to_mark(plan, work):
    """Return how machines may be told apart: by names of frames first, if these may be enough, then by numbers."""
    return [True, False] if are_filled_first(plan, work) else [False]


def told_by(kernel):
    """Return the tuple of tuples (hand, what its calls told) of all hands that have come to be."""
    return tuple([(hand, kernel.tellings[hand]) for hand in sorted(kernel.tellings)])


def endings_marked(plan, work, by_names):
    """Return the dict of what can be behind whole runs, or None if names are not enough to tell machines apart."""
    marks = Marks(plan, work, by_names)
    turns = Turns(work)
    kernel = beginning(plan, work)
    seen = {marks.mark(kernel, told_by(kernel)): True}
    found = {}
    rest = [kernel]
    while rest:
        kernel = rest.pop()
        agents = turns.agents(kernel)
        if not agents:
            found[told_by(kernel), is_any_lost(kernel)] = True
        for agent in agents:
            other = kernel_behind(kernel, agent)
            mark = marks.mark(other, told_by(other))
            if mark is None:
                return None
            if mark not in seen:
                seen[mark] = True
                rest.append(other)
    return found


def endings(plan, work):
    """Return the list of the tuples (told, lost) that can be behind whole runs, ascending by their texts."""
    found = None
    for by_names in ways_to_mark(plan, work):
        if found is None:
            found = endings_marked(plan, work, by_names)
    return sorted(found, key=text_of)


def plain_ways(cast, stand, told):
    """Return the list of tuples (stand, told) behind all that can be done next in the plain machine."""
    found = []
    for h in range(len(cast.row_of_hands)):
        for _, telling, behind in ways_of_call(cast, stand, h):
            found.append((behind, with_item(told, h, (*told[h], telling))))
    found.extend([(ended_behind(stand, p), told) for p in range(len(cast.row_of_processes)) if can_end(cast, stand, p)])
    return found


def told_there(cast, stand, told):
    """Return the tuple of tuples (hand, what its calls told) of all hands that have come to be in a stand."""
    rows = [(hand, stand[0][h], told[h]) for hand, h in cast.hand_at.items()]
    return tuple([(hand, tellings) for hand, count, tellings in rows if count is not None])


def plain_endings(work):
    """Return the list of what can be told where the plain machine cannot go on, ascending by their texts."""
    cast = Cast(work)
    first = (first_stand(cast), ((),) * len(cast.row_of_hands))
    seen = {first: True}
    found = {}
    rest = [first]
    while rest:
        stand, told = rest.pop()
        ways = plain_ways(cast, stand, told)
        if not ways:
            found[told_there(cast, stand, told)] = True
        for way in ways:
            if way not in seen:
                seen[way] = True
                rest.append(way)
    return sorted(found, key=text_of)


class BadSearch:
    """Looks for a bad run of a work, all runs of one length ahead of those with one step more.

    A node is a tuple (kernel, spot, path), path being a tuple (path ahead, agent) of the last step, or None.
    """

    def __init__(self, plan, work, by_names):
        self.marks = Marks(plan, work, by_names)
        self.turns = Turns(work)
        self.shadows = Shadows(work)
        self.seen = {}
        self.level = []
        # Whether names were not enough to tell machines apart, and the path of a bad run, if one was found.
        self.is_lacking = False
        self.path = None
        self.take_in(beginning(plan, work), self.shadows.first(), None)

    def take_in(self, kernel, spot, path):
        """Add a node to the level, if no node that goes on alike was added ahead of it."""
        counts = tuple([len(kernel.tellings[hand]) for hand in sorted(kernel.tellings)])
        mark = self.marks.mark(kernel, counts)
        if mark is None:
            self.is_lacking = True
        elif (mark, spot) not in self.seen:
            self.seen[mark, spot] = True
            self.level.append((kernel, spot, path))

    def spot_behind(self, kernel, other, spot, agent):
        """Return the spot behind a step of an agent that leads from one kernel to another, or None if it is bad."""
        number = number_of_call(kernel, agent)
        if number is None:
            return spot
        cast = self.shadows.cast
        if number == CLOSING:
            thing = ("end", cast.process_at[agent[:-1]])
            return self.shadows.behind(spot, thing, None if agent in other.closers else "over")
        told = other.tellings[agent]
        thing = ("call", cast.hand_at[agent])
        return self.shadows.behind(spot, thing, told[number] if number < len(told) else None)

    def look_behind(self, node, agent):
        """Do a step of an agent behind a node, and look whether the run is bad."""
        kernel, spot, path = node
        other = kernel_behind(kernel, agent)
        behind = self.spot_behind(kernel, other, spot, agent)
        if behind is None:
            self.path = (path, agent)
        else:
            self.take_in(other, behind, (path, agent))

    def look_at_level(self):
        """Look at all nodes of the level, and put those a step behind them in their place."""
        rows = [(held, self.turns.agents(held[0])) for held in self.level]
        for node, agents in rows:
            if not agents and is_any_lost(node[0]):
                self.path = node[2]
        self.level = []
        for node, agents in rows:
            for agent in agents:
                if self.path is None and not self.is_lacking:
                    self.look_behind(node, agent)

    def is_over(self):
        """Tell whether there is nothing to look for any more."""
        return self.path is not None or self.is_lacking or not self.level


def searched(plan, work):
    """Return a BadSearch that is over, whose machines were told apart well enough."""
    search = None
    for by_names in ways_to_mark(plan, work):
        if search is None or search.is_lacking:
            search = BadSearch(plan, work, by_names)
            while not search.is_over():
                search.look_at_level()
    return search


def shortest_bad(plan, work):
    """Return a shortest schedule of a bad run of a work, each entry of which does a step, or None if none is bad."""
    path = searched(plan, work).path
    if path is None:
        return None
    found = []
    while path is not None:
        path, agent = path
        found.append(agent)
    found.reverse()
    return found


def is_safe(plan, work):
    """Tell whether no run of a work is bad."""
    return shortest_bad(plan, work) is None
