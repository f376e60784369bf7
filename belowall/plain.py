"""The plain machine, in which each call is done at one moment."""

from belowall.errors import NoChild, NoPipe, NoProcess, Stuck, Wrong
from belowall.kinds import are_counts, is_agent, is_integer, is_work
from belowall.scenes import IDLE_WORK
from belowall.stands import (
    Cast, broken_off, can_break_off, can_do, can_end, done, ended_behind, ended_children, first_stand, next_call,
)


class Plain:
    """The plain machine for a work; it begins with the first process alone, without pages."""

    def __init__(self, work):
        if not is_work(work):
            raise Wrong(0)
        self._work = work
        self._cast = Cast(work)
        self._stand = first_stand(self._cast)
        self._tellings = {hand: [] for hand in self._cast.row_of_hands}

    def _place_of_hand(self, hand):
        """Return the place of a hand, any value, or None if it is none."""
        # The kind is asked first: (True,) would be found as (1,), and a list could not be looked up.
        return self._cast.hand_at.get(hand) if is_agent(hand) else None

    def _place_of_process(self, process):
        """Return the place of a process that is there, any value, or None if it is none."""
        p = self._cast.process_at.get(process) if are_counts(process) else None
        return None if p is None or self._stand[1][p] is None else p

    def _can_tell(self, h, name):
        """Tell whether the next call of a hand is a wait that can tell this name, any value."""
        if next_call(self._cast, self._stand, h)[0] != "wait" or not isinstance(name, str):
            return False
        return name in ended_children(self._cast, self._stand, self._cast.home_row[h])

    def able(self):
        """Return the ascending list of the hands whose next call can be done."""
        return [hand for hand, h in self._cast.hand_at.items() if can_do(self._cast, self._stand, h)]

    def breakable(self):
        """Return the ascending list of the hands whose next call can be broken off."""
        return [hand for hand, h in self._cast.hand_at.items() if can_break_off(self._cast, self._stand, h)]

    def endable(self):
        """Return the ascending list of the processes that may end."""
        return [process for process, p in self._cast.process_at.items() if can_end(self._cast, self._stand, p)]

    def do(self, hand, name=None):
        """Do the next call of a hand, and return what it tells."""
        h = self._place_of_hand(hand)
        if h is None or not can_do(self._cast, self._stand, h):
            raise Stuck(hand)
        if name is not None and not self._can_tell(h, name):
            raise NoChild(name)
        self._stand, telling = done(self._cast, self._stand, h, name)
        self._tellings[hand].append(telling)
        return telling

    def break_off(self, hand):
        """Break off the next call of a hand."""
        h = self._place_of_hand(hand)
        if h is None or not can_break_off(self._cast, self._stand, h):
            raise Stuck(hand)
        self._stand = broken_off(self._cast, self._stand, h)
        self._tellings[hand].append("broken")

    def end(self, process):
        """Let a process end."""
        p = self._place_of_process(process)
        if p is None or not can_end(self._cast, self._stand, p):
            raise Stuck(process)
        self._stand = ended_behind(self._stand, p)

    def told(self):
        """Return the dict from all hands that have come to be to the lists of what their calls told."""
        counts = self._stand[0]
        return {hand: list(self._tellings[hand]) for hand, h in self._cast.hand_at.items() if counts[h] is not None}

    def pages(self, process):
        """Return the dict from the pages of a process that is there to lists of their two values."""
        p = self._place_of_process(process)
        if p is None:
            raise NoProcess(process)
        memory = self._stand[1][p][1]
        return {page: list(cells) for page, cells in zip(self._cast.row_of_pages, memory) if cells is not None}

    def values_in(self, pipe):
        """Return the list of the values in a pipe."""
        if not is_integer(pipe) or not 0 <= pipe < len(self._cast.rooms):
            raise NoPipe(pipe)
        return list(self._stand[2][pipe][0])

    def there(self):
        """Return the ascending list of the names of the processes that are there."""
        names = self._cast.name_row
        return sorted([name for name, body in zip(names, self._stand[1]) if body is not None])

    def copied(self):
        """Return a Plain like this one."""
        other = Plain(IDLE_WORK)
        other._work = self._work
        other._cast = self._cast
        other._stand = self._stand
        other._tellings = {hand: list(row) for hand, row in self._tellings.items()}
        return other

    def __eq__(self, other):
        if not isinstance(other, Plain):
            return False
        return self._work == other._work and self._tellings == other._tellings and self._stand == other._stand
