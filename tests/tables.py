"""The tables of the document, written anew, and slow answers by them, for the tests to compare with."""

from itertools import permutations, product

DEEDS = {
    "await": ["join", "try", "heed"],
    "close": ["seal", "wake"],
    "copy": ["shut", "flush", "fill", "put", "lower"],
    "drop": ["shut", "flush", "lower"],
    "exit": ["adopt", "rouse", "end", "wake"],
    "fetch": ["load", "put", "leave"],
    "fork": ["mark", "flush", "raise", "start"],
    "map": ["wipe", "put"],
    "out": ["shut", "flush", "save", "lower"],
    "send": ["post", "rouse"],
}
SPARE = {"copy": "lower", "drop": "lower", "out": "lower", "fetch": "leave"}
WORDS = ["close", "drain", "put", "take"]
SORTS = ["none", "one", "all"]
WAKING = [("wakes", word) for word in WORDS] + [("passes",)]
RULES = """
await join heed each
await join try each
close seal wake each
copy fill lower each
copy fill put hands
copy flush lower each hands
copy flush put hands
copy shut flush hands
copy shut put
drop flush lower each hands
drop shut flush hands
exit adopt end each
exit adopt rouse each
exit end wake each
fetch load leave each
fetch load put hands
fork flush start hands
fork mark flush hands
fork raise start each
map wipe put hands
out flush save
out save lower each
out shut flush
send post rouse each
"""
SETTINGS = [(lock, alone) for lock in ("each", "all") for alone in (True, False)]


def rule_rows():
    """Return the rules of order, told as tuples with their guards."""
    rows = [line.split() for line in RULES.split("\n") if line]
    return [(row[0], row[1], row[2], tuple(row[3:])) for row in rows]


def slow_asked(lock, alone):
    """Return the rules of order that are asked."""
    there = ([] if lock == "all" else ["each"]) + ([] if alone else ["hands"])
    return [row[:3] for row in rule_rows() if set(row[3]) <= set(there)]


def slow_holds_order(order, first, second):
    """Tell whether an order has no second ahead of, or without, its first."""
    for step in order:
        if step == first:
            return True
        if step == second:
            return False
    return second not in order


def full_orders(deed):
    """Return all orders of a deed with all steps, ascending."""
    return sorted(permutations(DEEDS[deed]))


def every_order(deed):
    """Return all orders of a deed, with and without the step that may be left out."""
    found = full_orders(deed)
    if deed in SPARE:
        found += permutations([step for step in DEEDS[deed] if step != SPARE[deed]])
    return found


def slow_right(orders, deed, lock, alone):
    """Return those of the orders of a deed that hold all rules that are asked."""
    pairs = [rule[1:] for rule in slow_asked(lock, alone) if rule[0] == deed]
    return [order for order in orders if all(slow_holds_order(order, *pair) for pair in pairs)]


def slow_waking_broken(lock, await_order, wakes, left, passes):
    """Return the rules of waking that are not held."""
    found = []
    for word in ("put", "take"):
        if wakes[word] == "none":
            found.append(("wakes", word))
    for word in ("drain", "close"):
        if wakes[word] == "none" or (wakes[word] == "one" and not left):
            found.append(("wakes", word))
    tries_first = await_order.index("try") < await_order.index("heed")
    if not passes and set(wakes.values()) != {"all"} and not (lock == "all" and tries_first):
        found.append(("passes",))
    return found


def slow_broken(plan, alone):
    """Return all rules that are asked of a Plan and that it does not hold."""
    orders = plan.orders()
    found = [rule for rule in slow_asked(plan.lock, alone) if not slow_holds_order(orders[rule[0]], *rule[1:])]
    return sorted(found + slow_waking_broken(plan.lock, orders["await"], plan.wakes(), plan.left, plan.passes))


def every_wakes():
    """Return all dicts from the four words to who is woken."""
    return [dict(zip(WORDS, sorts)) for sorts in product(SORTS, repeat=4)]


def exchanges(order):
    """Return the orders that come of one by an exchange of two neighbours."""
    found = []
    for at in range(len(order) - 1):
        steps = list(order)
        steps[at], steps[at + 1] = steps[at + 1], steps[at]
        found.append(tuple(steps))
    return found


def distances(start, allowed):
    """Return the dict from orders to how few exchanges lead there from start, all on the way being allowed."""
    found = {start: 0}
    rest = [start]
    for order in rest:
        for behind in exchanges(order):
            if behind in allowed and behind not in found:
                found[behind] = found[order] + 1
                rest.append(behind)
    return found
