"""The book: it leads a machine, with all steps taken back and done anew."""

from belowall.errors import Absent, Busy, Fails, NoFact, Nothing, Stopped, Stuck, There, Wrong
from belowall.facts import FACTS, facts
from belowall.kinds import is_work
from belowall.machine import Machine
from belowall.plans import Plan


def with_plan(machine, plan):
    """Return a Machine like another one that goes on by a plan."""
    other = machine.copied()
    kernel = other.kernel
    kernel.plan = plan
    return other


def wrong_facts(machine):
    """Return the ascending list of the facts that are not so; of a machine that is not quiet none is asked."""
    found = facts(machine)
    return [] if found is None else found


class Book:
    """A Machine with the steps that led to it; a SWAP of the plan stands among them as a step of the agent None.

    An entry is a tuple (agent, plan, machine): the plan that was put in by a swap, or None, and the Machine behind it.
    No Machine that is kept here ever changes, so that books may share them.
    """

    def __init__(self, plan, work):
        if not isinstance(plan, Plan):
            raise Wrong(0)
        if not is_work(work):
            raise Wrong(1)
        self._plan = plan
        self._work = work
        self._first = Machine(plan, work)
        self._entries = []
        # The entries that were taken back, the last one of them at the end.
        self._undone = []
        self._facts = []

    def _now(self):
        """Return the Machine behind all entries."""
        return self._entries[-1][2] if self._entries else self._first

    def _least_wrong(self, machine):
        """Return the least fact that is watched and not so, or None."""
        wrong = [fact for fact in wrong_facts(machine) if fact in self._facts]
        return wrong[0] if wrong else None

    def _enter(self, agent, plan, machine):
        """Put an entry behind the others; what was taken back is gone then."""
        self._entries.append((agent, plan, machine))
        self._undone = []

    def step(self, agent):
        """Do a step of an agent, any value, and return the deed and the word."""
        machine = self._now().copied()
        told = machine.step(agent)
        fact = self._least_wrong(machine)
        if fact is not None:
            raise Fails(fact, told)
        self._enter(agent, None, machine)
        return told

    def back(self):
        """Take back the last step or swap, and return its agent."""
        if not self._entries:
            raise Nothing()
        entry = self._entries.pop()
        self._undone.append(entry)
        return entry[0]

    def again(self):
        """Do the last step or swap that was taken back once more, and return its agent."""
        if not self._undone:
            raise Nothing()
        entry = self._undone.pop()
        self._entries.append(entry)
        return entry[0]

    def schedule(self):
        """Return the list of the agents of the steps that stand, None for each swap."""
        return [entry[0] for entry in self._entries]

    def machine(self):
        """Return a copy of the Machine."""
        return self._now().copied()

    def watch(self, fact):
        """Refuse steps from now on behind which a fact, any value, is not so."""
        if not isinstance(fact, str) or fact not in FACTS:
            raise NoFact(fact)
        if fact in self._facts:
            raise There(fact)
        if fact in wrong_facts(self._now()):
            raise Fails(fact, None)
        self._facts = sorted(self._facts + [fact])

    def unwatch(self, fact):
        """Let a fact, any value, be watched no longer."""
        if not isinstance(fact, str) or fact not in self._facts:
            raise Absent(fact)
        self._facts = [other for other in self._facts if other != fact]

    def watched(self):
        """Return the ascending list of the facts that are watched."""
        return list(self._facts)

    def swap(self, plan):
        """Put another Plan in the place, by which all later steps go."""
        if not isinstance(plan, Plan):
            raise Wrong(0)
        if facts(self._now()) is None:
            raise Busy()
        self._enter(None, plan, with_plan(self._now(), plan))

    def copied(self):
        """Return a Book like this one, with what was taken back."""
        other = Book(self._plan, self._work)
        other._entries = list(self._entries)
        other._undone = list(self._undone)
        other._facts = list(self._facts)
        return other

    def trial(self, agents):
        """Return a copy with the steps of all these agents, any values, done."""
        other = self.copied()
        for index, agent in enumerate(agents):
            try:
                other.step(agent)
            except (Stuck, Fails):
                raise Stopped(index) from None
        return other

    def __len__(self):
        return len(self._entries)

    def __eq__(self, other):
        if not isinstance(other, Book) or self._work != other._work or self._plan != other._plan:
            return False
        # What a step leads to is told by the agent alone, and by the plan of the last swap.
        entries = [entry[:2] for entry in self._entries]
        return entries == [entry[:2] for entry in other._entries] and self._facts == other._facts
