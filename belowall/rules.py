"""The rules, pairs of steps that have to stand in order, by which a plan is right."""

RULES = (
    ("await", "join", "heed", ("each",)),
    ("await", "join", "try", ("each",)),
    ("close", "seal", "wake", ("each",)),
    ("copy", "fill", "lower", ("each",)),
    ("copy", "fill", "put", ("hands",)),
    ("copy", "flush", "lower", ("each", "hands")),
    ("copy", "flush", "put", ("hands",)),
    ("copy", "shut", "flush", ("hands",)),
    ("copy", "shut", "put", ()),
    ("drop", "flush", "lower", ("each", "hands")),
    ("drop", "shut", "flush", ("hands",)),
    ("exit", "adopt", "end", ("each",)),
    ("exit", "adopt", "rouse", ("each",)),
    ("exit", "end", "wake", ("each",)),
    ("fetch", "load", "leave", ("each",)),
    ("fetch", "load", "put", ("hands",)),
    ("fork", "flush", "start", ("hands",)),
    ("fork", "mark", "flush", ("hands",)),
    ("fork", "raise", "start", ("each",)),
    ("map", "wipe", "put", ("hands",)),
    ("out", "flush", "save", ()),
    ("out", "save", "lower", ("each",)),
    ("out", "shut", "flush", ()),
    ("send", "post", "rouse", ("each",)),
)

WAKING_RULES = (("passes",), ("wakes", "close"), ("wakes", "drain"), ("wakes", "put"), ("wakes", "take"))


def rules():
    """Return the ascending list of the rules of order."""
    return sorted(RULES)


def is_asked(guards, lock, alone):
    """Tell whether a rule with these guards is asked."""
    return ("each" not in guards or lock == "each") and ("hands" not in guards or not alone)


def asked(lock, alone):
    """Return the ascending list of the rules of order that are asked, without their guards."""
    return sorted([(deed, first, second) for deed, first, second, guards in RULES if is_asked(guards, lock, alone)])


def stands_ahead(order, first, second):
    """Tell whether in an order the first step stands ahead of the second, or the second is left out."""
    return second not in order or order.index(first) < order.index(second)


def wakes_enough(plan, word):
    """Tell whether a plan holds the rule of waking for a word."""
    if plan.wake(word) == "all":
        return True
    # Behind one put or take one other hand can go on; a drain and a close let many go on, one by one if left.
    return plan.wake(word) == "one" and (word in ("put", "take") or plan.left)


def passes_enough(plan):
    """Tell whether by a plan no call of a hand that is broken off is lost for the others."""
    if plan.passes or all([sort == "all" for sort in list(plan.wakes().values())]):
        return True
    return plan.lock == "all" and stands_ahead(plan.order("await"), "try", "heed")


def holds(plan, rule):
    """Tell whether a plan holds a rule of order, without its guards, or a rule of waking."""
    if rule[0] == "passes":
        return passes_enough(plan)
    if rule[0] == "wakes":
        return wakes_enough(plan, rule[1])
    deed, first, second = rule
    return stands_ahead(plan.order(deed), first, second)


def broken(plan, alone):
    """Return the ascending list of the rules that are asked of a plan and that it does not hold."""
    return sorted([rule for rule in asked(plan.lock, alone) + list(WAKING_RULES) if not holds(plan, rule)])


def is_right(plan, alone):
    """Tell whether a plan is right for all works, or for all that are alone."""
    return not broken(plan, alone)
