"""facts [61], and that they hold by right plans [8]."""

import random
import unittest

from belowall import facts as module
from belowall.facts import facts
from belowall.machine import Machine
from belowall.plans import standard
from tests.leading import IDLE, go, go_all, looks, machine_of, schedule_by_chance
from tests.rightplans import right_plan
from tests.works import draw

TAKE, PUT = ("take", 0), ("put", 0, 1)


class QuietTest(unittest.TestCase):
    def test_function_stands_in_the_file(self):
        self.assertEqual(facts.__module__, module.__name__)

    def quiet(self, machine, agent, times):
        """Return for each of so many steps whether the machine is quiet behind it."""
        found = []
        for _ in range(times):
            machine.step(agent)
            told = facts(machine)
            self.assertIn(told, [None, []])
            found.append(told is not None)
        return found

    def test_at_the_beginning(self):
        self.assertEqual(facts(machine_of((("map", 0),))), [])

    def test_in_the_midst_of_each_deed(self):
        deeds = {"map": (("map", 1), 2), "drop": (("drop", 0), 3), "fork": (("fork", "son", IDLE), 4),
                 "close": (("close", 0), 2), "send": (("send", "root"), 2), "put": (PUT, 3), "wait": (("wait",), 2),
                 "copy": (("write", 0, 0, 1), 5)}
        for name, (call, times) in deeds.items():
            calls = (("map", 0),) + ((("fork", "kid", ((TAKE,),)),) if name == "copy" else ())
            machine = machine_of(calls + (call,), rooms=(1,))
            go(machine, (0,), 6 if name == "copy" else 2)
            self.assertEqual(self.quiet(machine, (0,), times), [False] * (times - 1) + [True], name)

    def test_out_and_fetch(self):
        machine = machine_of((("map", 0), ("read", 0, 0)), outs=(("root", 0), ("root", 1)))
        go(machine, (0,), 2)
        self.assertEqual(self.quiet(machine, (), 5), [False] * 3 + [True, True])
        self.assertEqual(self.quiet(machine, (0,), 3), [False, False, True])
        # Between the fetch and its access it is quiet, and so behind the access.
        self.assertEqual(self.quiet(machine, (0,), 1), [True])

    def test_rests_and_sleeps(self):
        machine = machine_of((TAKE,), (PUT,), rooms=(1,))
        self.assertEqual(self.quiet(machine, (0,), 4), [False] * 3 + [True])
        self.assertEqual(self.quiet(machine, (1,), 3), [False, False, True])

    def test_closing(self):
        machine = machine_of((("map", 0),))
        go(machine, (0,), 2)
        self.assertEqual(self.quiet(machine, (0,), 7), [False, False, True, False, False, False, True])

    def test_single_steps(self):
        machine = machine_of((("read", 0, 0), ("fork", "root", IDLE), ("drop", 1), ("send", "kid"), ("map", 0),
                              ("map", 0)))
        self.assertEqual(self.quiet(machine, (0,), 7), [True] * 4 + [False, True, True])


class WordsTest(unittest.TestCase):
    def test_alone(self):
        """A kid begins ahead of the raise, finds the count 1, and opens the frame that it shares."""
        plan = standard().with_order("fork", ("mark", "flush", "start", "raise"))
        machine = machine_of((("map", 0), ("fork", "kid", ((("write", 0, 0, 1), TAKE),)), TAKE), rooms=(1,), plan=plan)
        go(machine, (0,), 2 + 3)
        self.assertEqual([machine.step((0, 1, 0)), facts(machine)], [("fault", "open"), None])
        machine.step((0,))
        self.assertEqual([machine.table(()), machine.table((0, 1))], [{0: ("in", 0, False)}, {0: ("in", 0, True)}])
        self.assertEqual(facts(machine), ["alone"])

    def test_alone_in_one_table(self):
        """A frame given up ahead of the shut is taken by another page of the same process."""
        machine = machine_of((("map", 0), ("map", 1)))
        go(machine, (0,), 2)
        machine.kernel.set_entry((), 5, ("in", 0, False))
        machine.kernel.frame_store.raise_one(0)
        self.assertEqual(facts(machine), ["alone"])
        machine.kernel.set_entry((), 0, ("in", 0, False))
        self.assertEqual(facts(machine), [])
        machine.kernel.set_entry((), 5, ("in", 0, True))
        self.assertEqual(facts(machine), ["alone"])

    def test_cached(self):
        """A hand reads between the flush and the shut: what it has in its cache is in no table."""
        for order in (("flush", "shut", "lower"), ("flush", "lower", "shut")):
            machine = machine_of((("map", 0), ("drop", 0)), (("read", 0, 0), ("wait",)),
                                 plan=standard().with_order("drop", order))
            go(machine, (0,), 2 + 1)
            go(machine, (1,))
            self.assertIsNone(facts(machine))
            go(machine, (0,), 2)
            self.assertEqual([machine.cache((1,)), machine.table(()), facts(machine)], [{0: (0, True)}, {}, ["cached"]])

    def test_cached_writable_where_the_table_is_not(self):
        plan = standard().with_order("fork", ("flush", "mark", "raise", "start"))
        machine = machine_of((("map", 0), ("fork", "kid", ((TAKE,),)), TAKE), (("read", 0, 0), TAKE), rooms=(1,), plan=plan)
        go(machine, (0,), 2 + 1)
        go(machine, (1,))
        go(machine, (0,), 3)
        self.assertEqual([machine.cache((1,)), machine.table(()), facts(machine)],
                         [{0: (0, True)}, {0: ("in", 0, False)}, ["cached"]])

    def test_cached_by_another_frame(self):
        plan = standard().with_order("copy", ("flush", "shut", "fill", "put", "lower"))
        machine = machine_of((("map", 0), ("fork", "kid", ((TAKE,),)), ("write", 0, 0, 1)), (("read", 0, 0), TAKE), rooms=(1,),
                             plan=plan)
        go(machine, (0,), 2 + 4 + 1)
        go(machine, (1,))
        go(machine, (0,), 4)
        self.assertEqual([machine.cache((1,)), machine.table(()), facts(machine)],
                         [{0: (0, False)}, {0: ("in", 1, True)}, ["cached"]])

    def test_caches_of_a_process_that_has_ended(self):
        plan = standard().with_order("drop", ("flush", "shut", "lower"))
        machine = machine_of((("map", 0), ("fork", "kid", ((("read", 0, 0),),)), ("read", 0, 0), TAKE), rooms=(1,), plan=plan)
        go(machine, (0,), 2 + 4)
        go(machine, (0, 1, 0), 1 + 3)
        machine.kernel.caches[(0, 1, 0)] = {0: (0, False)}
        self.assertEqual(facts(machine), ["cached"])
        go_all(machine, (0, 1, 0))
        self.assertEqual([machine.cache((0, 1, 0)), facts(machine)], [{0: (0, False)}, []])

    def test_called(self):
        for plan, calls in [(standard().with_wake("put", "none"), (TAKE, (PUT,))),
                            (standard().with_wake("close", "none"), (TAKE, (("close", 0),))),
                            (standard().with_order("await", ("try", "join", "heed")), (TAKE, (PUT,)))]:
            machine = machine_of((calls[0],), calls[1], rooms=(1,), plan=plan)
            if plan.order("await")[0] == "try":
                go(machine, (0,), 1)
                go_all(machine, (1,))
                self.assertIsNone(facts(machine))
            go_all(machine, (0,))
            go_all(machine, (1,))
            self.assertEqual([machine.state((0,)), facts(machine)], ["asleep", ["called"]])

    def test_called_putters(self):
        plan = standard().with_wake("take", "none")
        machine = machine_of((PUT, PUT), (TAKE,), rooms=(1,), plan=plan)
        go_all(machine, (0,))
        self.assertEqual(facts(machine), [])
        go_all(machine, (1,))
        self.assertEqual([machine.putters(0), facts(machine)], [[((0,), False)], ["called"]])

    def test_called_is_so_where_some_hand_of_the_list_is_called(self):
        plan = standard().with_wake("put", "one")
        machine = machine_of((TAKE,), (TAKE,), (PUT, PUT), rooms=(2,), plan=plan)
        go_all(machine, (0,))
        go_all(machine, (1,))
        go(machine, (2,), 3)
        self.assertEqual([machine.takers(0), facts(machine)], [[((0,), True), ((1,), False)], []])

    def test_counted(self):
        """Deeds raise and lower by turns, so that no plan leaves a count too low: here it is made so by hand."""
        machine = machine_of((("map", 0), ("fork", "kid", ((TAKE,),)), TAKE), rooms=(1,), outs=(("root", 0),))
        go(machine, (0,), 2 + 4)
        self.assertEqual(facts(machine), [])
        machine.kernel.frame_store.lower_one(0)
        self.assertEqual([machine.frames(), facts(machine)], [[(0, 1, 0, 0)], ["counted"]])
        machine.kernel.frame_store.raise_one(0)
        machine.kernel.frame_store.raise_one(0)
        self.assertEqual([machine.frames(), facts(machine)], [[(0, 3, 0, 0)], []])
        go(machine, (), 4)
        self.assertEqual(facts(machine), [])
        machine.kernel.slot_store.lower_one(0)
        self.assertEqual([machine.slots(), facts(machine)], [[], ["counted"]])

    def test_heeded(self):
        for plan in (standard().with_order("send", ("rouse", "post")),
                     standard().with_order("await", ("heed", "join", "try"))):
            machine = machine_of((TAKE,), (("send", "root"),), rooms=(1,), plan=plan)
            if plan.order("await")[0] == "heed":
                go(machine, (0,), 1)
                go_all(machine, (1,))
                go_all(machine, (0,))
            else:
                go_all(machine, (0,))
                go(machine, (1,), 1)
                go_all(machine, (0,))
                go_all(machine, (1,))
            self.assertEqual([machine.state((0,)), machine.flags(), facts(machine)], ["asleep", ["root"], ["heeded"]])

    def test_heeded_by_a_kid(self):
        plan = standard().with_order("send", ("rouse", "post"))
        machine = machine_of((("fork", "kid", ((TAKE,),)), ("send", "kid"), TAKE), rooms=(1,), plan=plan)
        go(machine, (0,), 4 + 1)
        go_all(machine, (0, 0, 0))
        go_all(machine, (0,))
        self.assertEqual([machine.flags(), facts(machine)], [["kid"], ["heeded"]])
        # The flag of one process, and a hand of another that is asleep, go together.
        other = machine_of((("fork", "kid", ((TAKE,),)), ("send", "root"), ("map", 0)), rooms=(1,), plan=plan)
        go(other, (0,), 4)
        go_all(other, (0, 0, 0))
        go(other, (0,), 2)
        self.assertEqual([other.flags(), other.state((0, 0, 0)), facts(other)], [["root"], "asleep", []])

    def test_several_at_once_ascend(self):
        plan = standard().with_order("send", ("rouse", "post")).with_wake("put", "none")
        machine = machine_of((TAKE,), (("send", "root"),), (PUT, TAKE), rooms=(1,), plan=plan)
        go_all(machine, (0,))
        go(machine, (1,), 1)
        go_all(machine, (0,))
        go_all(machine, (1,))
        go(machine, (2,), 2)
        self.assertEqual(facts(machine), ["called", "heeded"])

    def test_what_is_told_is_new_and_nothing_is_changed(self):
        machine = machine_of((TAKE,), (PUT,), rooms=(1,), plan=standard().with_wake("put", "none"))
        go_all(machine, (0,))
        go_all(machine, (1,))
        work = (((TAKE,), (PUT,)), (1,), ())
        before = looks(machine, work)
        facts(machine).append("x")
        self.assertEqual(facts(machine), ["called"])
        self.assertEqual(looks(machine, work), before)


class RightTest(unittest.TestCase):
    def test_none_is_broken_by_a_plan_that_is_right_for_all_works(self):
        quiet = 0
        for seed in range(1500):
            chance = random.Random(seed)
            work = draw(chance)
            plan = standard() if seed % 4 == 0 else right_plan(chance, False)
            machine = Machine(plan, work)
            for agent in schedule_by_chance(chance, work, chance.randrange(20, 120)):
                if agent in machine.able():
                    machine.step(agent)
                    told = facts(machine)
                    self.assertIn(told, [None, []], seed)
                    quiet += told is not None
        self.assertGreater(quiet, 6000)


if __name__ == "__main__":
    unittest.main()
