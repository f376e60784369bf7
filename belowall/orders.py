"""Orders: which are right, and by which exchanges of neighbours they lead to one another."""

from itertools import permutations

from belowall.plans import Plan, WAKE_SORTS, deeds, is_order, needed_steps, steps_of
from belowall.rules import asked, is_right, stands_ahead


def all_orders(deed):
    """Return the ascending list of the orders of a deed that have all of its steps."""
    steps = sorted(steps_of(deed))
    return sorted(permutations(steps))


def short_orders(deed):
    """Return the ascending list of the orders of a deed in which a step is left out."""
    steps = sorted(needed_steps(deed))
    if len(steps) == len(steps_of(deed)):
        return []
    return sorted(permutations(steps))


def right_ones(orders, deed, lock, alone):
    """Return those of the orders of a deed by which no rule of this deed is broken that is asked so."""
    pairs = [(first, second) for of_deed, first, second in asked(lock, alone) if of_deed == deed]
    return [order for order in orders if all([stands_ahead(order, first, second) for first, second in pairs])]


def right_orders(deed, lock, alone):
    """Return the ascending list of the right orders of a deed that have all of its steps."""
    return right_ones(all_orders(deed), deed, lock, alone)


def apart(one, other):
    """Return the ascending list of the pairs of steps that stand so in the one order and turned about in the other."""
    pairs = [(first, second) for at, first in enumerate(one) for second in one[at + 1:]]
    return sorted([(first, second) for first, second in pairs if other.index(second) < other.index(first)])


def nearest(deed, order, lock, alone):
    """Return how few exchanges lead from an order to a right one, and the list of those to which so many lead."""
    rights = right_orders(deed, lock, alone)
    # Each exchange of neighbours sets right one pair at most, so the pairs that stand apart are the fewest exchanges.
    least = min([len(apart(order, right)) for right in rights])
    return (least, [right for right in rights if len(apart(order, right)) == least])


def exchanged(order, at):
    """Return an order with the steps at a place and behind it exchanged."""
    return (*order[:at], order[at + 1], order[at], *order[at + 2:])


def next_towards(order, other):
    """Return an order with two neighbours exchanged that stand turned about in the other."""
    turned = [at for at in range(len(order) - 1) if other.index(order[at + 1]) < other.index(order[at])]
    return exchanged(order, turned[0])


def way(deed, one, other, lock, alone):
    """Return a shortest list of right orders from the one to the other, each by one exchange of neighbours."""
    row = [one]
    # Only pairs are exchanged that the other has turned about: no rule asks for either, so all on the way are right.
    while row[-1] != other:
        row.append(next_towards(row[-1], other))
    return row


def are_neighbours(order, behind):
    """Tell whether an order is the one ahead of it with two neighbours exchanged."""
    return behind in [exchanged(order, at) for at in range(len(order) - 1)]


def is_way(deed, one, other, lock, alone, thing):
    """Tell whether thing, any value, is a list of right orders that leads from the one to the other as a way does."""
    if not isinstance(thing, list) or not all([is_order(deed, order) for order in thing]):
        return False
    rights = right_orders(deed, lock, alone)
    if not thing or thing[0] != one or thing[-1] != other or not all([order in rights for order in thing]):
        return False
    return all([are_neighbours(order, behind) for order, behind in zip(thing, thing[1:])])


def waking_plans(lock, left):
    """Return all Plans with this lock and this left that have other orders of "await" alone."""
    wakes = [
        {"close": close, "drain": drain, "put": put, "take": take}
        for close in WAKE_SORTS for drain in WAKE_SORTS for put in WAKE_SORTS for take in WAKE_SORTS
    ]
    return [
        Plan(lock, {"await": order}, woken, left, passes)
        for order in all_orders("await") for woken in wakes for passes in (False, True)
    ]


def right_plans(lock, alone, left):
    """Return how many Plans with this lock and this left are right."""
    # The rules of waking bind "await" to what is woken; of the other deeds each is right or not by itself.
    number = len([plan for plan in waking_plans(lock, left) if is_right(plan, alone)])
    for deed in deeds():
        if deed != "await":
            number = number * len(right_ones(all_orders(deed) + short_orders(deed), deed, lock, alone))
    return number
