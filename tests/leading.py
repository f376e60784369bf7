"""Machines for the tests, and how to lead them and look at them."""

from belowall.errors import NoProcess
from belowall.machine import Machine
from belowall.plans import Plan, deeds, standard
from belowall.works import hands_in, processes_in
from tests.tables import WORDS, every_order

IDLE = ((),)


def machine_of(*hands, rooms=(), outs=(), plan=None):
    """Return a Machine of the work with these hands."""
    return Machine(plan or standard(), (hands, rooms, outs))


def go(machine, agent, times=1):
    """Return what so many steps of an agent tell."""
    return [machine.step(agent) for _ in range(times)]


def go_words(machine, agent, deed):
    """Do the steps of an agent as long as they belong to a deed, and return their words."""
    found = []
    while agent in machine.able():
        if machine.copied().step(agent)[0] != deed:
            break
        found.append(machine.step(agent)[1])
    return found


def go_all(machine, agent):
    """Return what all steps of an agent tell that it can do."""
    found = []
    while agent in machine.able():
        found.append(machine.step(agent))
    return found


def all_hands_go(machine):
    """Let the least agent go on till no agent can."""
    while machine.able():
        machine.step(machine.able()[0])


def table_or_none(machine, process):
    """Return the table of a process, or None if it is not there."""
    try:
        return machine.table(process)
    except NoProcess:
        return None


def looks(machine, work):
    """Return all that a Machine tells."""
    hands = machine.hands()
    processes = {process: table_or_none(machine, process) for process in processes_in(work)}
    here = [process for process, table in processes.items() if table is not None]
    pipes = range(len(work[1]))
    return (
        machine.able(), hands, machine.told(), [(hand, machine.state(hand), machine.cache(hand)) for hand in hands],
        processes, machine.frames(), machine.slots(), machine.there(), machine.flags(),
        [(machine.values_in(pipe), machine.putters(pipe), machine.takers(pipe)) for pipe in pipes],
        [(process, machine.waiters(process)) for process in here],
    )


def plan_by_chance(chance):
    """Return a Plan of any orders, wakes, lock, left and passes."""
    orders = {deed: chance.choice(every_order(deed)) for deed in deeds() if chance.random() < 0.6}
    wakes = {word: chance.choice(["none", "one", "all"]) for word in WORDS if chance.random() < 0.6}
    return Plan(chance.choice(["each", "all"]), orders, wakes, chance.random() < 0.5, chance.random() < 0.5)


def schedule_by_chance(chance, work, length):
    """Return a schedule in which agents do some steps in a row; a few of its entries are none of the work."""
    agents = [()] + hands_in(work)
    found = []
    while len(found) < length:
        agent = chance.choice(agents) if chance.random() < 0.97 else (9, chance.randrange(3), 0)
        found += [agent] * chance.choice([1, 1, 1, 2, 3, 5])
    return found[:length]
