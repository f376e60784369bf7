"""Plans: in which order each deed does its steps, who is woken, and what is locked."""

from belowall.errors import NoDeed, NoWord, Wrong
from belowall.kinds import is_truth

STEPS = {
    "await": ("join", "try", "heed"),
    "close": ("seal", "wake"),
    "copy": ("shut", "flush", "fill", "put", "lower"),
    "drop": ("shut", "flush", "lower"),
    "exit": ("adopt", "rouse", "end", "wake"),
    "fetch": ("load", "put", "leave"),
    "fork": ("mark", "flush", "raise", "start"),
    "map": ("wipe", "put"),
    "out": ("shut", "flush", "save", "lower"),
    "send": ("post", "rouse"),
}

# Of each deed the one step that may be left out, if there is one.
SPARE_STEPS = {"copy": "lower", "drop": "lower", "out": "lower", "fetch": "leave"}

LOCKS = ("each", "all")

WAKE_WORDS = ("close", "drain", "put", "take")

WAKE_SORTS = ("none", "one", "all")


def deeds():
    """Return the ascending list of the deeds."""
    return sorted(STEPS)


def is_deed(thing):
    """Tell whether thing, any value, is a deed."""
    return isinstance(thing, str) and thing in STEPS


def steps_of(deed):
    """Return the list of the steps of a deed in the standard order."""
    if not is_deed(deed):
        raise NoDeed(deed)
    return list(STEPS[deed])


def needed_steps(deed):
    """Return the list of the steps of a deed that may not be left out, in the standard order."""
    return [step for step in STEPS[deed] if step != SPARE_STEPS.get(deed)]


def is_order(deed, thing):
    """Tell whether thing, any value, is an order of a deed."""
    if not is_deed(deed) or not isinstance(thing, tuple):
        return False
    if not all([isinstance(step, str) for step in thing]):
        return False
    steps = sorted(thing)
    return steps == sorted(STEPS[deed]) or steps == sorted(needed_steps(deed))


def is_lock(thing):
    """Tell whether thing, any value, is a lock."""
    return isinstance(thing, str) and thing in LOCKS


def is_wake_word(thing):
    """Tell whether thing, any value, is a word by which hands are woken."""
    return isinstance(thing, str) and thing in WAKE_WORDS


def is_wake_sort(thing):
    """Tell whether thing, any value, tells who is woken."""
    return isinstance(thing, str) and thing in WAKE_SORTS


def are_orders(thing):
    """Tell whether thing, any value, is a dict from deeds to orders of them."""
    return isinstance(thing, dict) and all([is_order(deed, order) for deed, order in thing.items()])


def are_wakes(thing):
    """Tell whether thing, any value, is a dict from words by which hands are woken to who is woken."""
    if not isinstance(thing, dict):
        return False
    return all([is_wake_word(word) and is_wake_sort(sort) for word, sort in thing.items()])


class Plan:
    """A kernel's plan; it never changes."""

    def __init__(self, lock, orders, wakes, left, passes):
        if not is_lock(lock):
            raise Wrong(0)
        if not are_orders(orders):
            raise Wrong(1)
        if not are_wakes(wakes):
            raise Wrong(2)
        if not is_truth(left):
            raise Wrong(3)
        if not is_truth(passes):
            raise Wrong(4)
        self._lock = lock
        self._orders = {deed: orders.get(deed, STEPS[deed]) for deed in sorted(STEPS)}
        self._wakes = {word: wakes.get(word, "all") for word in sorted(WAKE_WORDS)}
        self._left = left
        self._passes = passes

    @property
    def lock(self):
        """Tell what is locked: "each" process, or "all" by one lock."""
        return self._lock

    @property
    def left(self):
        """Tell whether what is left in a pipe calls one more hand."""
        return self._left

    @property
    def passes(self):
        """Tell whether a hand that is broken off passes its call on."""
        return self._passes

    def order(self, deed):
        """Return the order of a deed."""
        if not is_deed(deed):
            raise NoDeed(deed)
        return self._orders[deed]

    def wake(self, word):
        """Return who is woken by a word."""
        if not is_wake_word(word):
            raise NoWord(word)
        return self._wakes[word]

    def orders(self):
        """Return the dict from all deeds to their orders."""
        return {deed: order for deed, order in self._orders.items()}

    def wakes(self):
        """Return the dict from all four words to who is woken."""
        return {word: sort for word, sort in self._wakes.items()}

    def with_order(self, deed, order):
        """Return this Plan with another order of a deed."""
        if not is_deed(deed):
            raise NoDeed(deed)
        if not is_order(deed, order):
            raise Wrong(1)
        return Plan(self._lock, {**self._orders, deed: order}, self._wakes, self._left, self._passes)

    def with_wake(self, word, sort):
        """Return this Plan with others woken by a word."""
        if not is_wake_word(word):
            raise NoWord(word)
        if not is_wake_sort(sort):
            raise Wrong(1)
        return Plan(self._lock, self._orders, {**self._wakes, word: sort}, self._left, self._passes)

    def with_lock(self, lock):
        """Return this Plan with another lock."""
        if not is_lock(lock):
            raise Wrong(0)
        return Plan(lock, self._orders, self._wakes, self._left, self._passes)

    def with_left(self, truth):
        """Return this Plan with another left."""
        if not is_truth(truth):
            raise Wrong(0)
        return Plan(self._lock, self._orders, self._wakes, truth, self._passes)

    def with_passes(self, truth):
        """Return this Plan with another passes."""
        if not is_truth(truth):
            raise Wrong(0)
        return Plan(self._lock, self._orders, self._wakes, self._left, truth)

    def __eq__(self, other):
        return (
            isinstance(other, Plan)
            and self._lock == other._lock
            and self._orders == other._orders
            and self._wakes == other._wakes
            and self._left == other._left
            and self._passes == other._passes
        )


def standard():
    """Return the plan that has all in its standard form."""
    return Plan("each", {}, {}, False, False)
