"""The plain machine, in which each call is done at one moment."""

from belowall.errors import NoChild, NoPipe, NoProcess, Stuck, Wrong
from belowall.kinds import are_counts, is_agent, is_integer, is_work
from belowall.pipes import Pipe
from belowall.plainprocess import PlainProcess
from belowall.works import FIRST_NAME, calls_by_hand

BREAKABLE_WORDS = ("put", "take", "drain", "wait")


def standing(plain):
    """Return how a Plain stands: what the processes that are there have, and what the pipes."""
    bodies = {
        process: (body.parent, body.memory, body.is_flagged, body.has_ended)
        for process, body in plain._there.items()
    }
    return (bodies, [(pipe.row, pipe.sealed) for pipe in plain._pipes])


class Plain:
    """The plain machine for a work; it begins with the first process alone, without pages."""

    def __init__(self, work):
        if not is_work(work):
            raise Wrong(0)
        self._work = work
        self._calls = calls_by_hand(work)
        self._told = {}
        self._there = {}
        self._pipes = [Pipe(room) for room in work[1]]
        self._start((), PlainProcess(FIRST_NAME, None, {}), work[0])

    def _start(self, process, body, hands):
        """Let a process be there, and its hands begin."""
        self._there[process] = body
        for m in range(len(hands)):
            hand = (*process, m)
            self._told[hand] = []

    def _next_call(self, hand):
        """Return the next call of a hand, any value, or None if there is none."""
        # The kind is asked first: (True,) would be found as (1,), and a list could not be looked up.
        if not is_agent(hand) or hand not in self._told:
            return None
        calls = self._calls[hand]
        done = len(self._told[hand])
        return calls[done] if done < len(calls) else None

    def _has_children(self, process):
        """Tell whether a process has a child."""
        return process in [body.parent for body in list(self._there.values())]

    def _ended_children(self, process):
        """Return the dict from the names of the children of a process that have ended to their tuples."""
        return {
            body.name: child for child, body in self._there.items() if body.parent == process and body.has_ended
        }

    def _can_be_done(self, hand, call):
        """Tell whether the next call of a hand can be done."""
        if call[0] == "put":
            return self._pipes[call[1]].can_put()
        if call[0] in ("take", "drain"):
            return self._pipes[call[1]].can_take()
        if call[0] == "wait":
            return len(self._ended_children(hand[:-1])) > 0 or not self._has_children(hand[:-1])
        return True

    def _can_do(self, hand):
        """Tell whether a hand, any value, has a next call that can be done."""
        call = self._next_call(hand)
        return call is not None and self._can_be_done(hand, call)

    def _can_break_off(self, hand):
        """Tell whether a hand, any value, has a next call that can be broken off."""
        call = self._next_call(hand)
        return call is not None and call[0] in BREAKABLE_WORDS and self._there[hand[:-1]].is_flagged

    def _can_end(self, process):
        """Tell whether a process, any value, may end."""
        if not are_counts(process) or process not in self._there or self._there[process].has_ended:
            return False
        return all([self._next_call(hand) is None for hand in self._told if hand[:-1] == process])

    def _can_tell(self, hand, call, name):
        """Tell whether the next call of a hand is a wait that can tell this name, any value."""
        return call[0] == "wait" and isinstance(name, str) and name in self._ended_children(hand[:-1])

    def able(self):
        """Return the ascending list of the hands whose next call can be done."""
        return [hand for hand in sorted(self._told) if self._can_do(hand)]

    def breakable(self):
        """Return the ascending list of the hands whose next call can be broken off."""
        return [hand for hand in sorted(self._told) if self._can_break_off(hand)]

    def endable(self):
        """Return the ascending list of the processes that may end."""
        return [process for process in sorted(self._there) if self._can_end(process)]

    def do(self, hand, name=None):
        """Do the next call of a hand, and return what it tells."""
        if not self._can_do(hand):
            raise Stuck(hand)
        call = self._next_call(hand)
        if name is not None and not self._can_tell(hand, call, name):
            raise NoChild(name)
        telling = self._done(hand, call, name)
        self._told[hand].append(telling)
        return telling

    def _done(self, hand, call, name):
        """Do a call of a hand that can be done, and return what it tells."""
        body = self._there[hand[:-1]]
        match call[0]:
            case "map":
                return body.map_page(call[1])
            case "drop":
                return body.drop_page(call[1])
            case "read":
                return body.read_cell(call[1], call[2])
            case "write":
                return body.write_cell(call[1], call[2], call[3])
            case "fork":
                return self._fork(hand, call[1], call[2])
            case "put":
                return self._pipes[call[1]].put(call[2])
            case "take":
                return self._pipes[call[1]].take()
            case "drain":
                return self._pipes[call[1]].drain()
            case "close":
                return self._pipes[call[1]].seal()
            case "send":
                return self._send(call[1])
            case _:
                return self._wait(hand[:-1], name)

    def _fork(self, hand, name, hands):
        """Let a hand fork a process, and return what it tells."""
        if name in self.there():
            return "there"
        process = (*hand, len(self._told[hand]))
        parent = hand[:-1]
        self._start(process, PlainProcess(name, parent, self._there[parent].memory), hands)
        return "done"

    def _send(self, name):
        """Put up the flag of the process with this name, and return what it tells."""
        for body in list(self._there.values()):
            if body.name == name:
                return body.put_up_flag()
        return "none"

    def _wait(self, process, name):
        """Let a process tell a child that has ended, the least one if no name is handed in, and return its name."""
        ended = self._ended_children(process)
        if not ended:
            return "none"
        telling = min(list(ended)) if name is None else name
        del self._there[ended[telling]]
        return telling

    def break_off(self, hand):
        """Break off the next call of a hand."""
        if not self._can_break_off(hand):
            raise Stuck(hand)
        body = self._there[hand[:-1]]
        body.is_flagged = False
        self._told[hand].append("broken")

    def end(self, process):
        """Let a process end."""
        if not self._can_end(process):
            raise Stuck(process)
        self._there[process].finish()
        for body in list(self._there.values()):
            if body.parent == process:
                body.parent = ()

    def told(self):
        """Return the dict from all hands that have come to be to the lists of what their calls told."""
        return {hand: list(self._told[hand]) for hand in sorted(self._told)}

    def pages(self, process):
        """Return the dict from the pages of a process that is there to lists of their two values."""
        if not are_counts(process) or process not in self._there:
            raise NoProcess(process)
        memory = self._there[process].memory
        return {page: list(memory[page]) for page in sorted(memory)}

    def values_in(self, pipe):
        """Return the list of the values in a pipe."""
        if not is_integer(pipe) or not 0 <= pipe < len(self._pipes):
            raise NoPipe(pipe)
        return list(self._pipes[pipe].row)

    def there(self):
        """Return the ascending list of the names of the processes that are there."""
        return sorted([body.name for body in list(self._there.values())])

    def copied(self):
        """Return a Plain like this one."""
        other = Plain(self._work)
        other._told = {hand: list(row) for hand, row in self._told.items()}
        other._there = {process: body.copied() for process, body in self._there.items()}
        other._pipes = [pipe.copied() for pipe in self._pipes]
        return other

    def __eq__(self, other):
        if not isinstance(other, Plain):
            return False
        return self._work == other._work and self._told == other._told and standing(self) == standing(other)
