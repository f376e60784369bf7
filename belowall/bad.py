"""Bad runs: those that are not like the plain machine, or lost; each plan that breaks a rule has one."""

from belowall.kernel import PAGER
from belowall.likeness import is_like
from belowall.lost import is_lost
from belowall.plans import Plan
from belowall.rules import broken
from belowall.runs import can_be_led, run
from belowall.scenarios import scenarios_of
from belowall.stepping import beginning, do_step


def is_bad(plan, work, schedule):
    """Tell whether a run is not like the plain machine, or the machine behind it is lost."""
    return not is_like(plan, work, schedule) or is_lost(run(plan, work, schedule))


def is_reached(kernel, agent, goal, last):
    """Tell whether an agent whose last step was this one has reached its goal, told as in belowall.scenarios."""
    if goal is None:
        return False
    if isinstance(goal, tuple):
        return last == goal
    return goal <= (kernel.outs_done if agent == PAGER else len(kernel.tellings[agent]))


def schedule_of(plan, work, moves):
    """Return the schedule that comes of a work by the moves of a scenario."""
    kernel = beginning(plan, work)
    found = []
    for agent, goal in moves:
        last = None
        while can_be_led(kernel, agent) and not is_reached(kernel, agent, goal, last):
            last = do_step(kernel, agent)
            found.append(agent)
    return found


def bad_run_among(plan, rules_broken):
    """Return a tuple (work, schedule) of a bad run by one of these rules, the first by which there is one, or None."""
    for rule in rules_broken:
        for work, moves in scenarios_of(rule):
            schedule = schedule_of(plan, work, moves)
            if is_bad(plan, work, schedule):
                return (work, schedule)
    return None


def bad_run(plan, alone):
    """Return a tuple (work, schedule) of a bad run, the work alone if alone is true, or None if the plan is right."""
    return bad_run_among(plan, broken(plan, alone))


def plan_about(plan, rule):
    """Return the Plan that has from this one just what a rule is about, and else nothing that is broken."""
    if rule[0] == "passes":
        return Plan(plan.lock, {"await": plan.order("await")}, plan.wakes(), plan.left, plan.passes)
    if rule[0] == "wakes":
        return Plan(plan.lock, {"await": plan.order("await")}, plan.wakes(), plan.left, True)
    return Plan(plan.lock, {rule[0]: plan.order(rule[0])}, {}, False, True)


def bad_run_about(plan, rule, alone):
    """Return a tuple (work, schedule) of a run that is bad by what a rule that is broken is about."""
    other = plan_about(plan, rule)
    # Its own scenario first; where this Plan breaks other rules, too, one of them may come in the way of it.
    return bad_run_among(other, [rule] + broken(other, alone))


def bad_runs(plan, alone):
    """Return the dict from each rule that is broken to a tuple (work, schedule) of a run that is bad by it."""
    return {rule: bad_run_about(plan, rule, alone) for rule in broken(plan, alone)}
