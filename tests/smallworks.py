"""Works by chance with at most three hands and six calls, and plans for them that are not right mostly."""

from belowall.kinds import is_work
from belowall.plans import standard
from belowall.works import calls_of, hands_in
from tests.tables import SORTS, WORDS, every_order

PAGE_DEEDS = ["copy", "copy", "drop", "out", "out", "fetch", "fork", "fork", "map"]
WAITING = [("put", 0, 1), ("put", 0, 2), ("take", 0), ("drain", 0), ("close", 0), ("wait",), ("send", "a"),
           ("send", "root")]


def page_call(chance, forks):
    """Return a call of a page, or a fork, by chance."""
    page = chance.choice([0, 0, 1])
    if forks and chance.random() < 0.25:
        calls = tuple(page_call(chance, forks[1:]) for _ in range(chance.choice([1, 1, 2])))
        return ("fork", forks.pop(), (calls,))
    return chance.choice([("write", page, 0, chance.randrange(1, 4)), ("write", 0, 0, 9), ("read", page, 0),
                          ("read", 0, 0), ("map", page), ("drop", page)])


def page_work(chance):
    """Return a work with calls of pages."""
    forks = ["a", "b"][:chance.randrange(1, 3)]
    hands = [(("map", 0),) + tuple(page_call(chance, forks) for _ in range(chance.randrange(1, 4)))]
    if chance.random() < 0.4:
        hands.append(tuple(page_call(chance, []) for _ in range(chance.randrange(1, 3))))
    outs = [(chance.choice(["root", "a"]), 0) for _ in range(chance.choice([0, 0, 1, 1, 2]))]
    return (tuple(hands), (), tuple(outs))


def waiting_calls(chance, forks, most):
    """Return calls that wait, or wake others, by chance."""
    found = []
    for _ in range(chance.randrange(most)):
        if forks and chance.random() < 0.4:
            name = forks.pop()
            found.append(("fork", name, tuple(waiting_calls(chance, forks, 3) for _ in range(chance.choice([1, 1, 2])))))
        else:
            found.append(chance.choice(WAITING))
    return tuple(found)


def waiting_work(chance):
    """Return a work with calls of pipes, waits and sends."""
    forks = ["a", "b", "none"][:chance.randrange(0, 3)]
    hands = tuple(waiting_calls(chance, forks, 4) for _ in range(chance.choice([1, 1, 2, 3])))
    return (hands, (chance.choice([1, 1, 2]),), ())


def small(chance, draw, most=6):
    """Return a work by one of the above with at least two hands, at most three, and so many calls."""
    while True:
        work = draw(chance)
        hands = hands_in(work)
        many = sum(len(calls_of(work, hand)) for hand in hands)
        if 2 <= len(hands) <= 3 and 2 <= many <= most and is_work(work):
            return work


def page_plan(chance):
    """Return a Plan with one or two other orders of the deeds of pages."""
    plan = standard().with_passes(True).with_lock(chance.choice(["each"] * 6 + ["all"]))
    for _ in range(chance.choice([1, 1, 2])):
        deed = chance.choice(PAGE_DEEDS)
        plan = plan.with_order(deed, chance.choice(every_order(deed)))
    return plan


def waiting_plan(chance):
    """Return a Plan with one or two other things about waiting and waking."""
    plan = standard().with_passes(chance.random() < 0.5).with_left(chance.random() < 0.4)
    for _ in range(chance.choice([1, 1, 2])):
        if chance.random() < 0.6:
            deed = chance.choice(["await", "close", "send", "exit", "exit"])
            plan = plan.with_order(deed, chance.choice(every_order(deed)))
        else:
            plan = plan.with_wake(chance.choice(WORDS), chance.choice(SORTS))
    return plan.with_lock(chance.choice(["each"] * 4 + ["all"]))


def small_case(chance, most=6):
    """Return a small work and a plan."""
    if chance.random() < 0.5:
        return small(chance, page_work, most), page_plan(chance)
    return small(chance, waiting_work, most), waiting_plan(chance)
