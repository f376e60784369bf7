"""The machine that goes by a plan, step by step."""

from belowall.errors import NoHand, NoPipe, NoProcess, Stuck, Wrong
from belowall.kernel import PAGER
from belowall.kinds import are_counts, is_agent, is_integer, is_work
from belowall.lists import is_asleep
from belowall.plans import Plan
from belowall.scenes import IDLE_WORK
from belowall.stepping import beginning, can_step, do_step, has_more


def rows_of(store):
    """Return the ascending list of tuples (number, count, first value, second value) of those that are not free."""
    return [(number, store.count_of(number), *store.values_of(number)) for number in store.taken()]


class Machine:
    """A machine for a plan and a work; its kernel is for the other files of the package."""

    def __init__(self, plan, work):
        if not isinstance(plan, Plan):
            raise Wrong(0)
        if not is_work(work):
            raise Wrong(1)
        self.kernel = beginning(plan, work)

    def _is_hand(self, thing):
        """Tell whether thing, any value, is a hand that has come to be."""
        # The kind is asked first: (True,) would be found as (1,), and a list could not be looked up.
        return is_agent(thing) and thing in self.kernel.tellings

    def _is_process(self, thing):
        """Tell whether thing, any value, is the tuple of a process that is there."""
        return are_counts(thing) and thing in self.kernel.tables and self.kernel.is_there(thing)

    def _is_pipe(self, thing):
        """Tell whether thing, any value, is a pipe."""
        return is_integer(thing) and 0 <= thing < len(self.kernel.pipes)

    def able(self):
        """Return the ascending list of the agents that can do a step."""
        return [agent for agent in [PAGER] + self.hands() if can_step(self.kernel, agent)]

    def hands(self):
        """Return the ascending list of the hands that have come to be."""
        return sorted(self.kernel.tellings)

    def step(self, agent):
        """Do a step of an agent, any value, and return the deed and the word."""
        is_known = self._is_hand(agent) or (is_agent(agent) and agent == PAGER)
        if not is_known or not can_step(self.kernel, agent):
            raise Stuck(agent)
        return do_step(self.kernel, agent)

    def told(self):
        """Return the dict from all hands that have come to be to the lists of what their calls told."""
        return {hand: list(self.kernel.tellings[hand]) for hand in self.hands()}

    def state(self, hand):
        """Tell whether a hand is "asleep", "able", "barred" or "through"."""
        if not self._is_hand(hand):
            raise NoHand(hand)
        if is_asleep(self.kernel, hand):
            return "asleep"
        if not has_more(self.kernel, hand):
            return "through"
        return "able" if can_step(self.kernel, hand) else "barred"

    def table(self, process):
        """Return the dict from the pages of a process that is there to their entries."""
        if not self._is_process(process):
            raise NoProcess(process)
        entries = self.kernel.tables[process]
        return {page: entries[page] for page in sorted(entries)}

    def cache(self, hand):
        """Return the dict from the pages in the cache of a hand to tuples (frame, writable)."""
        if not self._is_hand(hand):
            raise NoHand(hand)
        held = self.kernel.caches[hand]
        return {page: held[page] for page in sorted(held)}

    def frames(self):
        """Return the ascending list of tuples (number, count, first value, second value) of the frames in use."""
        return rows_of(self.kernel.frame_store)

    def slots(self):
        """Return the ascending list of tuples (number, count, first value, second value) of the slots in use."""
        return rows_of(self.kernel.slot_store)

    def values_in(self, pipe):
        """Return the list of the values in a pipe."""
        if not self._is_pipe(pipe):
            raise NoPipe(pipe)
        return list(self.kernel.pipes[pipe][0])

    def putters(self, pipe):
        """Return the list of tuples (hand, is called) of those who wait to put."""
        if not self._is_pipe(pipe):
            raise NoPipe(pipe)
        return list(self.kernel.rows["put", pipe])

    def takers(self, pipe):
        """Return the list of tuples (hand, is called) of those who wait to take or drain."""
        if not self._is_pipe(pipe):
            raise NoPipe(pipe)
        return list(self.kernel.rows["take", pipe])

    def waiters(self, process):
        """Return the list of tuples (hand, is called) of those of a process who wait for children."""
        if not self._is_process(process):
            raise NoProcess(process)
        return list(self.kernel.rows["wait", process])

    def there(self):
        """Return the ascending list of the names of the processes that are there."""
        return sorted(self.kernel.present)

    def flags(self):
        """Return the ascending list of the names of the processes that are there whose flag is up."""
        return sorted([name for name, process in self.kernel.present.items() if process in self.kernel.flagged])

    def copied(self):
        """Return a Machine like this one."""
        other = Machine(self.kernel.plan, IDLE_WORK)
        other.kernel = self.kernel.copied()
        return other
