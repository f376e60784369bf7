"""Notation: calls, hands, works, agents, schedules and plans as texts."""


def show_numbers(numbers):
    """Return the text of a hand, a process or an agent."""
    return ".".join([str(number) for number in numbers]) if numbers else "-"


def show_part(part):
    """Return the text of a part of a call."""
    return show_hands(part) if isinstance(part, tuple) else str(part)


def show_call(call):
    """Return the text of a call."""
    return " ".join([show_part(part) for part in call])


def show_calls(calls):
    """Return the text of the calls of a hand."""
    return "; ".join([show_call(call) for call in calls]) if calls else "idle"


def show_hands(hands):
    """Return the text of hands."""
    return "(" + " | ".join([show_calls(calls) for calls in hands]) + ")"


def show_work(work):
    """Return the text of a work, in three lines."""
    hands, rooms, outs = work
    rows = [
        ["hands", show_hands(hands)],
        ["rooms"] + [str(room) for room in rooms],
        ["outs"] + [name + ":" + str(page) for name, page in outs],
    ]
    return show_lines([" ".join(row) for row in rows])


def show_lines(lines):
    """Return a text of lines, with a line feed behind each."""
    return "\n".join(lines) + "\n"


def show_agent(agent):
    """Return the text of an agent."""
    return show_numbers(agent)


def show_schedule(schedule):
    """Return the text of a schedule."""
    return " ".join([show_agent(agent) for agent in schedule]) if schedule else "none"


def show_truth(truth):
    """Return the word for a truth."""
    return "yes" if truth else "no"


def plan_lines(plan):
    """Return the list of the lines of a plan."""
    orders = [" ".join([deed, *order]) for deed, order in plan.orders().items()]
    wakes = [" ".join(["wake", word, sort]) for word, sort in plan.wakes().items()]
    ends = ["left " + show_truth(plan.left), "passes " + show_truth(plan.passes)]
    return ["lock " + plan.lock] + orders + wakes + ends


def show_plan(plan):
    """Return the text of a plan."""
    return show_lines(plan_lines(plan))


def show_plan_line(plan):
    """Return the text of a plan in one line."""
    return "; ".join(plan_lines(plan))
