"""Lost machines [71]."""

import random
import unittest

from belowall import lost as module
from belowall.lost import is_lost, sleepers
from belowall.machine import Machine
from belowall.plans import standard
from tests.leading import IDLE, all_hands_go, go, go_all, looks, machine_of, plan_by_chance, schedule_by_chance
from tests.slowmachine import SlowMachine
from tests.works import draw

TAKE, PUT = ("take", 0), ("put", 0, 1)


class LostTest(unittest.TestCase):
    def test_functions_stand_in_the_file(self):
        self.assertEqual([is_lost.__module__, sleepers.__module__], [module.__name__] * 2)

    def test_nobody_sleeps(self):
        machine = machine_of((("map", 0),), outs=(("root", 0),))
        self.assertEqual([is_lost(machine), sleepers(machine)], [False, []])
        all_hands_go(machine)
        self.assertIs(is_lost(machine), False)

    def test_a_sleeper_that_could_go_on(self):
        for word, calls in [("put", ((TAKE,), (PUT,))), ("take", ((PUT, PUT), (TAKE,))),
                            ("drain", ((PUT, PUT), (("drain", 0),))), ("close", ((TAKE,), (("close", 0),))),
                            ("close", ((PUT, PUT), (("close", 0),)))]:
            machine = machine_of(*calls, rooms=(1,), plan=standard().with_wake(word, "none"))
            go_all(machine, (0,))
            self.assertEqual([is_lost(machine), sleepers(machine)], [False, [(0,)]])
            while (1,) in machine.able():
                self.assertIs(is_lost(machine), False)
                machine.step((1,))
            self.assertEqual([machine.able(), sleepers(machine)], [[], [(0,)]])
            self.assertIs(is_lost(machine), True)

    def test_a_sleeper_that_waits_for_children(self):
        plan = standard().with_order("exit", ("wake", "adopt", "rouse", "end"))
        kid = ((("fork", "son", IDLE), ("wait",)),)
        machine = machine_of((("fork", "kid", kid),), plan=plan)
        go(machine, (0,), 4)
        go(machine, (0, 0, 0), 4)
        go(machine, (0, 0, 0, 0, 0), 1)
        go(machine, (0, 0, 0), 4)
        go_all(machine, (0, 0, 0, 0, 0))
        go_all(machine, (0,))
        self.assertEqual([machine.able(), sleepers(machine), is_lost(machine)], [[], [(0, 0, 0)], True])

    def test_a_sleeper_whose_last_child_is_told_to_another_hand(self):
        """Two hands wait for one child: the second one is not called where the first one has told it."""
        machine = machine_of((("fork", "kid", IDLE), ("wait",)), (("wait",), ("wait",)))
        go(machine, (0,), 4 + 4)
        go(machine, (1,), 4)
        go_all(machine, (0, 0, 0))
        all_hands_go(machine)
        self.assertEqual([is_lost(machine), sleepers(machine)], [False, []])

    def test_a_sleeper_whose_flag_is_up(self):
        plan = standard().with_order("send", ("rouse", "post"))
        machine = machine_of((TAKE,), (("send", "root"),), rooms=(1,), plan=plan)
        go(machine, (1,), 1)
        go_all(machine, (0,))
        self.assertIs(is_lost(machine), False)
        go(machine, (1,), 1)
        self.assertEqual([machine.able(), machine.flags(), is_lost(machine)], [[], ["root"], True])

    def test_hands_that_sleep_for_good_reason(self):
        machine = machine_of((TAKE,), (PUT, PUT, PUT, TAKE, TAKE, TAKE, TAKE), (("take", 1),), (("wait",), ("take", 1)),
                             rooms=(1, 1))
        all_hands_go(machine)
        self.assertEqual(machine.able(), [])
        self.assertEqual(sleepers(machine), [(1,), (2,), (3,)])
        self.assertIs(is_lost(machine), False)
        family = machine_of((("fork", "kid", ((TAKE,),)), ("wait",)), rooms=(1,))
        all_hands_go(family)
        self.assertEqual([family.able(), sleepers(family), is_lost(family)], [[], [(0,), (0, 0, 0)], False])

    def test_the_flag_of_another_process(self):
        plan = standard().with_order("send", ("rouse", "post"))
        machine = machine_of((("fork", "kid", ((("read", 0, 0), ("take", 0)), (TAKE,))), ("send", "kid"), TAKE),
                             rooms=(1,), plan=plan)
        go(machine, (0,), 4 + 1)
        go_all(machine, (0, 0, 0))
        go_all(machine, (0, 0, 1))
        go_all(machine, (0,))
        self.assertEqual([machine.flags(), sleepers(machine)], [["kid"], [(0,), (0, 0, 0), (0, 0, 1)]])
        self.assertIs(is_lost(machine), True)

    def test_not_lost_as_long_as_anybody_can_do_a_step(self):
        machine = machine_of((TAKE,), (PUT,), (("map", 0),), rooms=(1,), plan=standard().with_wake("put", "none"),
                             outs=(("root", 0),))
        go_all(machine, (0,))
        go_all(machine, (1,))
        for agent, many in [((2,), 2), ((), 4)]:
            for _ in range(many):
                self.assertIs(is_lost(machine), False)
                machine.step(agent)
        self.assertEqual([machine.able(), is_lost(machine)], [[], True])

    def test_sleepers_ascend_and_are_new(self):
        machine = machine_of((TAKE,), (("fork", "kid", ((TAKE,), (TAKE,))), TAKE), (TAKE,), rooms=(1,))
        go_all(machine, (2,))
        all_hands_go(machine)
        told = sleepers(machine)
        self.assertEqual(told, [(0,), (1,), (1, 0, 0), (1, 0, 1), (2,)])
        told.clear()
        self.assertEqual(len(sleepers(machine)), 5)

    def test_called_hands_are_not_asleep(self):
        machine = machine_of((TAKE,), (TAKE,), (PUT,), rooms=(1,), plan=standard().with_wake("put", "one"))
        go_all(machine, (0,))
        go_all(machine, (1,))
        self.assertEqual(sleepers(machine), [(0,), (1,)])
        go(machine, (2,), 3)
        self.assertEqual(sleepers(machine), [(1,)])

    def test_by_chance(self):
        lost = 0
        for seed in range(400):
            chance = random.Random(seed)
            work, plan = draw(chance), plan_by_chance(chance)
            machine, other = Machine(plan, work), SlowMachine(plan, work)
            for agent in schedule_by_chance(chance, work, 60) + [None] * 400:
                agent = (machine.able() + [None])[0] if agent is None else agent
                if agent in machine.able():
                    machine.step(agent)
                    other.step(agent)
            before = looks(machine, work)
            self.assertEqual([is_lost(machine), sleepers(machine)], [other.is_lost(), sorted(other.asleep)])
            self.assertEqual(looks(machine, work), before)
            lost += is_lost(machine)
        self.assertGreater(lost, 5)


if __name__ == "__main__":
    unittest.main()
