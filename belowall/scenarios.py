"""Scenarios: for each rule works, and how to lead them, so that a run goes wrong by a plan that breaks the rule.

A scenario is a tuple (work, moves), moves being tuples (agent, goal): the agent goes on till as many of its calls (of
the outs, for the pager) are done, or till it has done this step of this deed, or, where the goal is None, as long as
it can. Between two moves no deed is half done but the one that the rule is about, and nothing leans on a step that a
plan may leave out: so what else the plan breaks hardly ever comes in the way.
"""

# The work of a rule is alone, unless "hands" is among the rule's guards.
OF_ORDER = {
    ("await", "join", "heed"): (
        (((("fork", "a", ((("take", 0),),)), ("send", "a")),), (1,), ()),
        (((0,), 1), ((0, 0, 0), ("await", "heed")), ((0,), None), ((0, 0, 0), None)),
    ),
    ("await", "join", "try"): (
        (((("fork", "a", ((("take", 0),),)), ("put", 0, 1)),), (1,), ()),
        (((0,), 1), ((0, 0, 0), ("await", "try")), ((0,), None), ((0, 0, 0), None)),
    ),
    ("close", "seal", "wake"): (
        (((("fork", "a", ((("take", 0),),)), ("close", 0)),), (1,), ()),
        (((0,), ("close", "wake")), ((0, 0, 0), None), ((0,), None)),
    ),
    ("copy", "fill", "lower"): (
        (((("map", 0), ("fork", "a", ((("write", 0, 0, 9),),)), ("write", 0, 1, 5), ("read", 0, 0)),), (), ()),
        (((0,), ("copy", "lower")), ((0, 1, 0), 1), ((0,), 4)),
    ),
    ("copy", "fill", "put"): (
        (((("map", 0), ("write", 0, 0, 3), ("fork", "a", ((),)), ("write", 0, 1, 5)), (("read", 0, 0),)), (), ()),
        (((0,), ("copy", "put")), ((1,), 1)),
    ),
    ("copy", "flush", "lower"): (
        (((("map", 0), ("fork", "a", ((("write", 0, 0, 9),),)), ("write", 0, 0, 5)),
          (("read", 0, 0), ("read", 0, 0))), (), ()),
        (((0,), 2), ((1,), 1), ((0,), ("copy", "lower")), ((0, 1, 0), 1), ((1,), 2)),
    ),
    ("copy", "flush", "put"): (
        (((("map", 0), ("fork", "a", ((),)), ("write", 0, 0, 5)), (("read", 0, 0), ("read", 0, 0)),
          (("write", 0, 0, 7),)), (), ()),
        (((0,), 2), ((1,), 1), ((0,), ("copy", "put")), ((2,), 1), ((1,), 2)),
    ),
    ("copy", "shut", "flush"): (
        (((("map", 0), ("fork", "a", ((),)), ("write", 0, 0, 5)), (("read", 0, 0), ("read", 0, 0))), (), ()),
        (((0,), ("copy", "flush")), ((1,), 1), ((0,), 3), ((1,), 2)),
    ),
    ("copy", "shut", "put"): (
        (((("map", 0), ("fork", "a", ((),)), ("write", 0, 0, 5)),), (), ()),
        (((0,), 3),),
    ),
    ("drop", "flush", "lower"): (
        (((("fork", "a", ((("map", 1), ("write", 1, 0, 9)),)), ("map", 0), ("drop", 0)),
          (("read", 0, 0), ("read", 0, 0))), (), ()),
        (((0,), 2), ((1,), 1), ((0,), ("drop", "lower")), ((0, 0, 0), 2), ((1,), 2)),
    ),
    ("drop", "shut", "flush"): (
        (((("map", 0), ("drop", 0)), (("read", 0, 0), ("read", 0, 0))), (), ()),
        (((0,), ("drop", "flush")), ((1,), 1), ((0,), 2), ((1,), 2)),
    ),
    ("exit", "adopt", "end"): (
        (((("fork", "a", ((("fork", "b", ((),)),),)), ("wait",), ("wait",)),), (), ()),
        (((0,), 1), ((0, 0, 0), ("exit", "end")), ((0,), 3)),
    ),
    ("exit", "adopt", "rouse"): (
        (((("fork", "a", ((("fork", "c", ((("fork", "b", ((),)),),)), ("take", 0)),)), ("wait",)),), (1,), ()),
        (((0,), 1), ((0, 0, 0), 1), ((0, 0, 0, 0, 0), ("exit", "rouse")), ((0, 0, 0, 0, 0, 0, 0), None), ((0,), None),
         ((0, 0, 0, 0, 0), None), ((0, 0, 0), None)),
    ),
    ("exit", "end", "wake"): (
        (((("fork", "a", ((("fork", "b", ((),)), ("wait",)),)),),), (), ()),
        (((0,), None), ((0, 0, 0), 1), ((0, 0, 0, 0, 0), ("exit", "wake")), ((0, 0, 0), None),
         ((0, 0, 0, 0, 0), None)),
    ),
    ("fetch", "load", "leave"): (
        (((("fork", "a", ((("map", 0), ("write", 0, 0, 5)),)), ("map", 0), ("write", 0, 0, 1), ("read", 0, 0)),), (),
         (("root", 0), ("a", 0))),
        (((0,), 3), ((0, 0, 0), 2), ((), 1), ((0,), ("fetch", "leave")), ((), 2), ((0,), 4)),
    ),
    ("fetch", "load", "put"): (
        (((("map", 0), ("write", 0, 0, 1), ("read", 0, 0)), (("map", 1), ("read", 0, 0))), (), (("root", 0),)),
        (((0,), 2), ((), 1), ((1,), 1), ((0,), ("fetch", "put")), ((1,), 2)),
    ),
    ("fork", "flush", "start"): (
        (((("map", 0), ("fork", "a", ((("read", 0, 0), ("read", 0, 0)),))),
          (("write", 0, 0, 5), ("write", 0, 0, 6))), (), ()),
        (((0,), 1), ((1,), 1), ((0,), ("fork", "start")), ((0, 1, 0), 1), ((1,), 2), ((0, 1, 0), 2)),
    ),
    ("fork", "mark", "flush"): (
        (((("map", 0), ("fork", "a", ((("read", 0, 0),),))), (("write", 0, 0, 5), ("write", 0, 0, 6))), (), ()),
        (((0,), ("fork", "flush")), ((1,), 1), ((0,), 2), ((1,), 2), ((0, 1, 0), 1)),
    ),
    ("fork", "raise", "start"): (
        (((("map", 0), ("fork", "a", ((("write", 0, 0, 9),),)), ("read", 0, 0)),), (), ()),
        (((0,), ("fork", "start")), ((0, 1, 0), 1), ((0,), 3)),
    ),
    ("map", "wipe", "put"): (
        (((("map", 0),), (("write", 0, 0, 5), ("read", 0, 0))), (), ()),
        (((0,), ("map", "put")), ((1,), 1), ((0,), 1), ((1,), 2)),
    ),
    ("out", "flush", "save"): (
        (((("map", 0), ("write", 0, 0, 5), ("write", 0, 0, 6), ("read", 0, 0)),), (), (("root", 0),)),
        (((0,), 2), ((), ("out", "save")), ((0,), 3), ((), 1), ((0,), 4)),
    ),
    ("out", "save", "lower"): (
        (((("fork", "a", ((("map", 0),),)), ("map", 0), ("write", 0, 0, 5), ("read", 0, 0)),), (), (("root", 0),)),
        (((0,), 3), ((), ("out", "lower")), ((0, 0, 0), 1), ((), 1), ((0,), 4)),
    ),
    ("out", "shut", "flush"): (
        (((("map", 0), ("read", 0, 0), ("write", 0, 0, 7), ("fork", "a", ((),)), ("read", 0, 0)),), (),
         (("root", 0),)),
        (((0,), 1), ((), ("out", "flush")), ((0,), 2), ((), 1), ((0,), 5)),
    ),
    ("send", "post", "rouse"): (
        (((("fork", "a", ((("take", 0),),)), ("send", "a")),), (1,), ()),
        (((0,), ("send", "rouse")), ((0, 0, 0), None), ((0,), None)),
    ),
}

OF_WAKING = {
    ("wakes", "close"): (
        (((("fork", "a", ((("take", 0),),)), ("fork", "b", ((("take", 0),),)), ("close", 0)),), (1,), ()),
        (((0,), 2), ((0, 0, 0), None), ((0, 1, 0), None), ((0,), None), ((0, 0, 0), None)),
    ),
    ("wakes", "drain"): (
        (((("fork", "a", ((("put", 0, 1),),)), ("fork", "b", ((("put", 0, 2),),)), ("put", 0, 3), ("put", 0, 4),
           ("drain", 0)),), (2,), ()),
        (((0,), 4), ((0, 0, 0), None), ((0, 1, 0), None), ((0,), None), ((0, 0, 0), None)),
    ),
    ("wakes", "put"): (
        (((("fork", "a", ((("take", 0),),)), ("put", 0, 1)),), (1,), ()),
        (((0,), 1), ((0, 0, 0), None), ((0,), None)),
    ),
    ("wakes", "take"): (
        (((("fork", "a", ((("put", 0, 1), ("put", 0, 2)),)), ("take", 0)),), (1,), ()),
        (((0,), 1), ((0, 0, 0), None), ((0,), None)),
    ),
}

# Works in which the first process calls the first of two that sleep, and then sends a signal to it; and how many calls
# it does till these are asleep.
CALLED_AND_SIGNALLED = (
    ((((("fork", "a", ((("take", 0),),)), ("fork", "b", ((("take", 0),),)), ("put", 0, 1), ("send", "a")),),
      (1,), ()), 2),
    ((((("fork", "a", ((("put", 0, 1),),)), ("fork", "b", ((("put", 0, 2),),)), ("put", 0, 3), ("take", 0),
        ("send", "a")),), (1,), ()), 3),
    ((((("fork", "a", ((("put", 0, 1),),)), ("fork", "b", ((("put", 0, 2),),)), ("put", 0, 3), ("drain", 0),
        ("send", "a")),), (1,), ()), 3),
    ((((("fork", "a", ((("take", 0),),)), ("fork", "b", ((("take", 0),),)), ("close", 0), ("send", "a")),),
      (1,), ()), 2),
)

# A hand that heeds ahead of trying is called while it is asleep; one that tries first, between the two.
GOALS_OF_CALLED = (None, ("await", "try"))


def scenarios_of_passing():
    """Return the scenarios in which a hand that is called is broken off, and another one is left asleep."""
    return [
        (work, (((0,), many), ((0, 0, 0), goal), ((0, 1, 0), None), ((0,), None), ((0, 0, 0), None)))
        for work, many in CALLED_AND_SIGNALLED for goal in GOALS_OF_CALLED
    ]


def scenarios_of(rule):
    """Return the list of the scenarios of a rule."""
    if rule == ("passes",):
        return scenarios_of_passing()
    return [OF_WAKING[rule] if rule[0] == "wakes" else OF_ORDER[rule]]
