"""Right plans by chance."""

from belowall.plans import Plan, deeds
from tests.tables import WORDS, every_order, slow_broken, slow_right

RIGHT_ORDERS = {
    (deed, lock, alone): slow_right(every_order(deed), deed, lock, alone)
    for deed in deeds() for lock in ("each", "all") for alone in (True, False)
}


def right_plan(chance, alone):
    """Return a Plan by chance that breaks no rule that is asked."""
    lock = chance.choice(["each", "all"])
    while True:
        orders = {deed: chance.choice(RIGHT_ORDERS[deed, lock, alone]) for deed in deeds()}
        wakes = {word: chance.choice(["one", "all"]) for word in WORDS}
        plan = Plan(lock, orders, wakes, chance.random() < 0.5, chance.random() < 0.5)
        if not slow_broken(plan, alone):
            return plan
