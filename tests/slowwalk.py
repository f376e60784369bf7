"""All runs of a work once more, step by step through all schedules; machines that stand alike in all are led on once."""

from belowall.frames import Store
from belowall.likeness import is_like
from belowall.lost import is_lost
from belowall.machine import Machine
from belowall.plain import Plain
from belowall.runs import closings, history


class TooMany(Exception):
    """There are more machines to lead on than a test has time for."""


def frozen(thing):
    """Return a text of all that stands in a thing, the order of dicts left out."""
    if isinstance(thing, Store):
        return frozen(vars(thing))
    if isinstance(thing, dict):
        return "{" + ",".join(sorted(frozen(key) + ":" + frozen(value) for key, value in thing.items())) + "}"
    if isinstance(thing, (list, tuple)):
        return "(" + ",".join(frozen(part) for part in thing) + ")"
    return repr(thing)


def state_of(machine):
    """Return all in which a Machine can be unlike another one of the same plan and work."""
    return frozen({name: thing for name, thing in vars(machine.kernel).items() if name not in ("plan", "scene")})


def stepped(machine, agent):
    other = machine.copied()
    other.step(agent)
    return other


def told_by(machine):
    return tuple((hand, tuple(told)) for hand, told in machine.told().items())


def slow_endings(plan, work, most=20000):
    """Return all (told, lost) behind whole runs."""
    rest = [Machine(plan, work)]
    seen, found = {state_of(rest[0])}, set()
    while rest:
        machine = rest.pop()
        if not machine.able():
            found.add((told_by(machine), is_lost(machine)))
        for agent in machine.able():
            other = stepped(machine, agent)
            state = state_of(other)
            if state not in seen:
                seen.add(state)
                rest.append(other)
        if len(seen) > most:
            raise TooMany()
    return sorted(found, key=repr)


def order_of_spans(plan, work, schedule):
    """Return which calls and closings of a run have begun, which are over, and which were over ahead of another."""
    spans = [(row[:2], row[2], row[3]) for row in history(plan, work, schedule)]
    spans += [(row[0], row[1], row[2]) for row in closings(plan, work, schedule)]
    over = [(name, last is not None) for name, _, last in spans]
    ahead = [(one[0], other[0]) for one in spans for other in spans if one[2] is not None and one[2] < other[1]]
    return (sorted(over, key=repr), sorted(ahead, key=repr))


def slow_shortest(plan, work, most=4000):
    """Return how few steps a bad run of a work has, or None; each run is looked at by its whole schedule."""
    level, seen, length = [(Machine(plan, work), [])], set(), 0
    while level:
        behind = []
        for machine, schedule in level:
            if is_lost(machine) or not is_like(plan, work, schedule):
                return length
            for agent in machine.able():
                other, longer = stepped(machine, agent), schedule + [agent]
                # Runs whose machines stand alike, and whose calls lie alike to one another, go on alike.
                key = (state_of(other), repr(order_of_spans(plan, work, longer)))
                if key not in seen:
                    seen.add(key)
                    behind.append((other, longer))
        if len(seen) > most:
            raise TooMany()
        level, length = behind, length + 1
    return None


def slow_plain_endings(work):
    """Return all that can be told where a Plain cannot go on."""
    rest, found = [(Plain(work))], set()
    seen = []
    while rest:
        plain = rest.pop()
        behind = []
        for hand in plain.able():
            names = [name for name in plain.there() if can_tell(plain, hand, name)]
            for name in names or [None]:
                behind.append(plain.copied())
                behind[-1].do(hand, name)
        for hand in plain.breakable():
            behind.append(plain.copied())
            behind[-1].break_off(hand)
        for process in plain.endable():
            behind.append(plain.copied())
            behind[-1].end(process)
        if not behind:
            found.add(tuple((hand, tuple(told)) for hand, told in plain.told().items()))
        for other in behind:
            if other not in seen:
                seen.append(other)
                rest.append(other)
    return sorted(found, key=repr)


def can_tell(plain, hand, name):
    """Tell whether the next call of a hand is a wait that can tell this name."""
    other = plain.copied()
    try:
        return other.do(hand, name) is not None
    except ValueError:
        return False
