"""Machine [60], and all that it leans on, held against another one of the tests' own."""

import copy
import random
import unittest

from belowall import machine as module
from belowall.errors import NoHand, NoPipe, NoProcess, Stuck, Wrong
from belowall.facts import facts
from belowall.kinds import is_work
from belowall.lost import is_lost, sleepers
from belowall.machine import Machine
from belowall.plain import Plain
from belowall.plans import standard
from belowall.works import processes_in
from tests.anyvalues import any_values, truths
from tests.leading import IDLE, go, go_all, looks, machine_of, plan_by_chance, schedule_by_chance
from tests.slowmachine import SlowMachine
from tests.works import draw

WORK = (((("map", 0), ("write", 0, 1, 7), ("fork", "kid", ((("read", 0, 1),),)), ("write", 0, 1, 8), ("wait",)),),
        (), ())
METHODS = ("able", "hands", "frames", "slots", "there", "flags", "step", "told", "state", "cache", "table", "waiters",
           "values_in", "putters", "takers", "copied", "__init__")


class MachineTest(unittest.TestCase):
    def test_methods_stand_in_the_class(self):
        self.assertEqual(Machine.__module__, module.__name__)
        for word in METHODS:
            self.assertIn(word, vars(Machine))

    def test_example_of_the_document(self):
        machine = Machine(standard(), WORK)
        self.assertEqual(go(machine, (0,), 3), [("map", "wipe"), ("map", "put"), ("access", "done")])
        self.assertEqual(go(machine, (0,), 4), [("fork", "mark"), ("fork", "flush"), ("fork", "raise"), ("fork", "start")])
        self.assertEqual([machine.able(), machine.table(()), machine.frames()],
                         [[(0,), (0, 2, 0)], {0: ("in", 0, False)}, [(0, 2, 0, 7)]])
        self.assertEqual(go(machine, (0,), 6), [("copy", "shut"), ("copy", "flush"), ("copy", "fill"), ("copy", "put"),
                                                ("copy", "lower"), ("access", "done")])
        self.assertEqual([machine.step((0, 2, 0)), machine.told()[(0, 2, 0)], machine.frames()],
                         [("access", "done"), [7], [(0, 1, 0, 7), (1, 1, 0, 8)]])

    def test_beginning(self):
        machine = machine_of((("map", 0),), (), (("take", 1),), rooms=(1, 2), outs=(("root", 0),))
        self.assertEqual([machine.able(), machine.hands(), machine.there(), machine.flags()],
                         [[(), (0,), (2,)], [(0,), (1,), (2,)], ["root"], []])
        self.assertEqual(machine.told(), {(0,): [], (1,): [], (2,): []})
        self.assertEqual([machine.table(()), machine.cache((1,)), machine.frames(), machine.slots()], [{}, {}, [], []])
        self.assertEqual([machine.values_in(1), machine.putters(0), machine.takers(1), machine.waiters(())], [[]] * 4)
        self.assertEqual([machine.state(hand) for hand in machine.hands()], ["able", "through", "able"])

    def test_wrong(self):
        near = [((), (), ()), (((),), (), [("root", 0)]), [((),), (), ()], (((("take", 0),),), (), ()), ((),),
                Plain(WORK), standard(), Machine(standard(), WORK), (((("read", 0, True),),), (), ())]
        for thing in near + any_values() + truths():
            self.assertFalse(is_work(thing))
            for plan, work, place in [(standard(), thing, 1), (thing, WORK, 0), (thing, thing, 0)]:
                if isinstance(plan, type(standard())) and place == 0:
                    continue
                with self.assertRaises(Wrong) as caught:
                    Machine(plan, work)
                self.assertIs(type(caught.exception.place), int)
                self.assertEqual(caught.exception.place, place)

    def test_states(self):
        machine = machine_of((("map", 0), ("take", 0), ("take", 0)), (("map", 1),), (), (("put", 0, 2), ("put", 0, 3)),
                             rooms=(1,))
        self.assertEqual([machine.state((k,)) for k in range(4)], ["able", "able", "through", "able"])
        go(machine, (0,))
        self.assertEqual([machine.state((k,)) for k in range(4)], ["able", "barred", "through", "able"])
        go(machine, (0,), 1 + 4)
        self.assertEqual([machine.state((k,)) for k in range(4)], ["asleep", "able", "through", "able"])
        go_all(machine, (3,))
        self.assertEqual([machine.state((k,)) for k in range(4)], ["able", "able", "through", "asleep"])
        go_all(machine, (1,))
        go_all(machine, (0,))
        self.assertEqual([machine.state((k,)) for k in range(4)], ["asleep", "through", "through", "able"])
        go_all(machine, (3,))
        self.assertEqual([machine.state((k,)) for k in range(4)], ["able", "through", "through", "through"])
        go(machine, (0,), 3 + 3 + 3)
        self.assertEqual(machine.state((0,)), "able")
        go(machine, (0,), 1)
        self.assertEqual([machine.state((k,)) for k in range(4)], ["through"] * 4)

    def test_every_tuple_of_a_step(self):
        """All that steps can tell, by runs of some works."""
        found = set()
        for seed in range(400):
            chance = random.Random(seed)
            work = draw(chance)
            machine = Machine(standard().with_left(True), work)
            for agent in schedule_by_chance(chance, work, 120):
                if agent in machine.able():
                    found.add(machine.step(agent))
        single = {("access", "done"), ("fault", "none"), ("fault", "open"), ("map", "there"), ("fork", "there"),
                  ("drop", "none"), ("send", "none"), ("out", "skip"), ("await", "wake"), ("await", "left"),
                  ("await", "rest")}
        steps = {(deed, step) for deed, order in standard().orders().items() for step in order}
        self.assertEqual(found, single | steps)

    def test_stuck(self):
        machine = machine_of((("map", 0), ("take", 0)), (("map", 1),), (("fork", "kid", IDLE),), (), rooms=(1,),
                             outs=(("root", 0),))
        work = (((("map", 0), ("take", 0)), (("map", 1),), (("fork", "kid", IDLE),), ()), (1,), (("root", 0),))
        go(machine, (0,))
        stuck = [(1,), (2,), (3,), (), (2, 0, 0), (4,), [0], (False,), (0.0,), "root", [], None]
        before = looks(machine, work)
        for thing in stuck + any_values() + truths():
            with self.assertRaises(Stuck) as caught:
                machine.step(thing)
            self.assertIs(caught.exception.agent, thing)
            self.assertEqual(looks(machine, work), before)
        go(machine, (0,), 1 + 4)
        for _ in range(4):
            machine.step(())
        before = looks(machine, work)
        for thing in [(), (0,), (3,)]:
            with self.assertRaises(Stuck):
                machine.step(thing)
            self.assertEqual(looks(machine, work), before)
        self.assertEqual(machine.step((1,)), ("map", "wipe"))

    def test_errors_of_what_is_asked(self):
        machine = machine_of((("fork", "kid", IDLE), ("map", 1)), (), rooms=(1, 1), outs=(("root", 0),))
        no_hands = [(), (2,), (0, 0, 0), (0, 1, 0), [0], (False,), (0, False, 0), 0]
        no_processes = [(0,), (0, 0), (1, 0), [], "root", (False, 0), 0]
        no_pipes = [2, -1, "0", (0,), [0], 10 ** 39]
        values = any_values() + truths()
        for thing in no_hands + values:
            for asked in (machine.state, machine.cache):
                with self.assertRaises(NoHand) as caught:
                    asked(thing)
                self.assertIs(caught.exception.hand, thing)
        for thing in no_processes + [value for value in values if value != ()]:
            for asked in (machine.table, machine.waiters):
                with self.assertRaises(NoProcess) as caught:
                    asked(thing)
                self.assertIs(caught.exception.process, thing)
        for thing in no_pipes + values:
            for asked in (machine.values_in, machine.putters, machine.takers):
                with self.assertRaises(NoPipe) as caught:
                    asked(thing)
                self.assertIs(caught.exception.pipe, thing)
        go(machine, (0,), 4)
        self.assertEqual([machine.state((0, 0, 0)), machine.cache((0, 0, 0)), machine.table((0, 0)),
                          machine.waiters((0, 0))], ["able", {}, {}, []])
        for thing in [(False, 0), (0, False), [0, 0], (0, 1)]:
            with self.assertRaises(NoProcess):
                machine.table(thing)

    def test_what_is_told_is_new_and_ascends(self):
        calls = (("map", 3), ("map", 1), ("read", 3, 0), ("read", 1, 0), ("put", 0, 4), ("fork", "zoe", IDLE),
                 ("fork", "amy", IDLE), ("send", "zoe"), ("send", "amy"), ("map", 2), ("wait",))
        work = (((("take", 1),), calls, (("put", 1, 1),)), (3, 1), (("root", 3), ("root", 1)))
        machine = Machine(standard(), work)
        go_all(machine, (0,))
        go_all(machine, (1,))
        go_all(machine, ())
        before = copy.deepcopy(looks(machine, work))
        self.assertEqual(list(machine.told()), [(0,), (1,), (1, 5, 0), (1, 6, 0)] + [(2,)])
        self.assertEqual([list(machine.table(())), machine.there(), machine.flags()],
                         [[1, 2, 3], ["amy", "root", "zoe"], ["amy", "zoe"]])
        self.assertEqual([[row[0] for row in machine.frames()], [row[0] for row in machine.slots()]], [[0, 1, 2], [0, 1]])
        for told in (machine.told(), machine.table(()), machine.cache((1,))):
            told.clear()
        machine.told()[(1,)].append("x")
        for told in (machine.able(), machine.hands(), machine.frames(), machine.slots(), machine.there(), machine.flags(),
                     machine.values_in(0), machine.putters(0), machine.takers(1), machine.waiters(())):
            told.append(None)
        self.assertEqual(looks(machine, work), before)

    def test_cache_ascends(self):
        machine = machine_of((("map", 3), ("map", 1), ("read", 3, 0), ("read", 1, 0), ("wait",)))
        go(machine, (0,), 6)
        self.assertEqual(list(machine.cache((0,)).items()), [(1, (1, True)), (3, (0, True))])

    def test_copied_goes_on_by_itself(self):
        for seed in range(60):
            chance = random.Random(seed)
            work, plan = draw(chance), plan_by_chance(chance)
            schedule = schedule_by_chance(chance, work, 60)
            machine = Machine(plan, work)
            for agent in schedule[:30]:
                if agent in machine.able():
                    machine.step(agent)
            before = looks(machine, work)
            other = machine.copied()
            self.assertIs(type(other), Machine)
            self.assertEqual(looks(other, work), before)
            told = [other.step(agent) for agent in schedule[30:] if agent in other.able()]
            self.assertEqual(looks(machine, work), before)
            behind = looks(other, work)
            self.assertEqual([machine.step(agent) for agent in schedule[30:] if agent in machine.able()], told)
            self.assertEqual([looks(machine, work), looks(other, work)], [behind, behind])

    def test_arguments_are_not_changed(self):
        plan, work = standard(), copy.deepcopy(WORK)
        machine = Machine(plan, work)
        while machine.able():
            machine.step(machine.able()[0])
        self.assertEqual(work, WORK)
        self.assertTrue(plan == standard())

    def test_huge_numbers(self):
        big = 10 ** 39
        machine = machine_of((("map", big), ("write", big, 1, big), ("put", 0, big)), rooms=(big,), outs=(("root", big),))
        go(machine, (0,), 3 + 3)
        self.assertEqual([machine.table(()), machine.frames(), machine.values_in(0)],
                         [{big: ("in", 0, True)}, [(0, 1, 0, big)], [big]])


class ChanceTest(unittest.TestCase):
    """Copies go on in the place of their machines now and then."""

    def compare(self, machine, other, work):
        self.assertEqual(looks(machine, work), other.looks(work, processes_in(work)))
        self.assertEqual([facts(machine), is_lost(machine), sleepers(machine)],
                         [other.facts(), other.is_lost(), sorted(other.asleep)])

    def test_like_the_other_machine(self):
        """Any plans, works and schedules: each step, and all that is told behind it."""
        for seed in range(400):
            chance = random.Random(seed)
            work, plan = draw(chance, seed % 5 == 0), plan_by_chance(chance)
            machine, other = Machine(plan, work), SlowMachine(plan, work)
            for agent in schedule_by_chance(chance, work, chance.randrange(10, 110)):
                if agent in machine.able():
                    self.assertEqual(machine.step(agent), other.step(agent), seed)
                    self.compare(machine, other, work)
                machine = machine.copied() if chance.random() < 0.2 else machine
            for _ in range(300):
                if machine.able():
                    agent = machine.able()[0]
                    self.assertEqual(machine.step(agent), other.step(agent), seed)
            self.compare(machine, other, work)


if __name__ == "__main__":
    unittest.main()
