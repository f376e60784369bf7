"""What values are: each question takes any value, and changes none."""

CALL_PARTS = {
    "map": ("count",),
    "drop": ("count",),
    "read": ("count", "cell"),
    "write": ("count", "cell", "count"),
    "fork": ("name", "hands"),
    "put": ("count", "count"),
    "take": ("count",),
    "drain": ("count",),
    "close": ("count",),
    "wait": (),
    "send": ("name",),
}

PIPE_WORDS = ("put", "take", "drain", "close")

MOST_LETTERS = 8


def is_integer(thing):
    """Tell whether thing is an integer; truths are none."""
    return isinstance(thing, int) and not isinstance(thing, bool)


def is_truth(thing):
    """Tell whether thing is True or False."""
    return isinstance(thing, bool)


def is_count(thing):
    """Tell whether thing is an integer from 0 on."""
    return is_integer(thing) and thing >= 0


def are_counts(thing):
    """Tell whether thing is a tuple of integers from 0 on."""
    return isinstance(thing, tuple) and all([is_count(part) for part in thing])


def is_name(thing):
    """Tell whether thing is a string of one to eight letters a to z."""
    if not isinstance(thing, str) or not 1 <= len(thing) <= MOST_LETTERS:
        return False
    return all(["a" <= sign <= "z" for sign in thing])


def is_cell(thing):
    """Tell whether thing is 0 or 1."""
    return is_integer(thing) and 0 <= thing <= 1


def fits(sort, thing):
    """Tell whether a part of a call is of its sort; forked hands are looked at elsewhere."""
    if sort == "count":
        return is_count(thing)
    if sort == "cell":
        return is_cell(thing)
    return sort == "hands" or is_name(thing)


def has_call_form(thing):
    """Tell whether thing is a call, whatever stands in the place of forked hands."""
    if not isinstance(thing, tuple) or not thing or not isinstance(thing[0], str):
        return False
    if thing[0] not in CALL_PARTS:
        return False
    sorts = CALL_PARTS[thing[0]]
    parts = thing[1:]
    return len(parts) == len(sorts) and all([fits(sort, part) for sort, part in zip(sorts, parts)])


def has_hands_form(thing):
    """Tell whether thing is hands, whatever stands in the place of the hands that they fork."""
    if not isinstance(thing, tuple) or not thing:
        return False
    if not all([isinstance(calls, tuple) for calls in thing]):
        return False
    return all([has_call_form(call) for calls in thing for call in calls])


def forked_in(hands):
    """Return the hands that these hands themselves fork."""
    return [call[2] for calls in hands for call in calls if call[0] == "fork"]


def are_hands(thing):
    """Tell whether thing is hands: a tuple of at least one tuple of calls."""
    # A list of what is left to look at, as forks may stand in forks deeper than Python likes to recur.
    rest = [thing]
    while rest:
        hands = rest.pop()
        if not has_hands_form(hands):
            return False
        rest.extend(forked_in(hands))
    return True


def is_call(thing):
    """Tell whether thing is a call."""
    return has_call_form(thing) and (thing[0] != "fork" or are_hands(thing[2]))


def hands_within(hands):
    """Return these hands, and all hands that are forked in them."""
    found = []
    rest = [hands]
    while rest:
        now = rest.pop()
        found.append(now)
        rest.extend(forked_in(now))
    return found


def calls_within(hands):
    """Return all calls of these hands, and of the hands that are forked in them."""
    return [call for now in hands_within(hands) for calls in now for call in calls]


def are_rooms(thing):
    """Tell whether thing is a tuple of integers from 1 on."""
    return are_counts(thing) and 0 not in thing


def is_out(thing):
    """Tell whether thing is a tuple (name, page)."""
    return isinstance(thing, tuple) and len(thing) == 2 and is_name(thing[0]) and is_count(thing[1])


def are_outs(thing):
    """Tell whether thing is a tuple of tuples (name, page)."""
    return isinstance(thing, tuple) and all([is_out(part) for part in thing])


def pipes_have_rooms(hands, rooms):
    """Tell whether all pipes in all calls are among the rooms."""
    return all([call[1] < len(rooms) for call in calls_within(hands) if call[0] in PIPE_WORDS])


def is_work(thing):
    """Tell whether thing is a work: (hands, rooms, outs)."""
    if not isinstance(thing, tuple) or len(thing) != 3:
        return False
    hands, rooms, outs = thing
    return are_hands(hands) and are_rooms(rooms) and are_outs(outs) and pipes_have_rooms(hands, rooms)


def is_agent(thing):
    """Tell whether thing is a tuple of integers from 0 on, of odd length or empty."""
    return are_counts(thing) and (not thing or len(thing) & 1 == 1)


def is_schedule(thing):
    """Tell whether thing is a list of agents."""
    return isinstance(thing, list) and all([is_agent(part) for part in thing])


def is_alone(work):
    """Tell whether each process of a work has one hand."""
    return all([len(hands) == 1 for hands in hands_within(work[0])])
