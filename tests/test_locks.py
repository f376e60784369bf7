"""Locks, and names in use [56]."""

import unittest

from belowall.plans import standard
from tests.leading import IDLE, go, machine_of

ALL = standard().with_lock("all")
# A hand for each kind of step that asks for a lock, or for none; all pages but 0 have no entry.
BARRED_BY_THEIR_PROCESS = {
    "fault": ("read", 1, 0), "map there": ("map", 0), "map": ("map", 2), "drop": ("drop", 0), "drop none": ("drop", 3),
    "fork": ("fork", "kid", IDLE), "fork there": ("fork", "root", IDLE),
}
BARRED_BY_THE_ONE = {
    "put": ("put", 0, 1), "take": ("take", 0), "drain": ("drain", 0), "close": ("close", 0), "wait": ("wait",),
    "send": ("send", "root"), "send none": ("send", "nobody"),
}
NEVER_BARRED = {"read": ("read", 0, 0), "write": ("write", 0, 0, 1)}


class LockTest(unittest.TestCase):
    def state_of(self, call, plan, holder, times):
        """Return the state of a hand with this call while the hand 0 is within a deed."""
        machine = machine_of((("map", 0),) + holder, (call,), rooms=(1,), plan=plan)
        go(machine, (0,), 2 + times)
        state = machine.state((1,))
        self.assertEqual(state == "able", (1,) in machine.able())
        return state

    def test_each_process_has_its_lock(self):
        for name, call in {**BARRED_BY_THEIR_PROCESS, **BARRED_BY_THE_ONE, **NEVER_BARRED}.items():
            barred = "barred" if name in BARRED_BY_THEIR_PROCESS else "able"
            for holder, times in [((("map", 1),), 1), ((("drop", 0),), 1), ((("fork", "son", IDLE),), 1),
                                  ((("fork", "son", IDLE),), 3)]:
                with self.subTest(name=name, holder=holder, times=times):
                    # Where the page is dropped, or no longer writable, the access is a fault by now.
                    is_fault = (holder[0][0], name) in [("drop", "read"), ("drop", "write"), ("fork", "write")]
                    self.assertEqual(self.state_of(call, standard(), holder, times), "barred" if is_fault else barred)
            for holder in (("put", 0, 5), ("take", 0), ("drain", 0), ("wait",), ("close", 0), ("send", "root")):
                with self.subTest(name=name, holder=holder):
                    self.assertEqual(self.state_of(call, standard(), (holder,), 1), "able")

    def test_one_lock_for_all(self):
        for name, call in {**BARRED_BY_THEIR_PROCESS, **BARRED_BY_THE_ONE, **NEVER_BARRED}.items():
            barred = "able" if name in NEVER_BARRED else "barred"
            for holder, times in [(("map", 1), 1), (("fork", "son", IDLE), 1), (("put", 0, 5), 1), (("put", 0, 5), 2),
                                  (("take", 0), 1), (("take", 0), 3), (("wait",), 1), (("close", 0), 1),
                                  (("send", "root"), 1)]:
                with self.subTest(name=name, holder=holder, times=times):
                    is_fault = (holder[0], name) == ("fork", "write")
                    self.assertEqual(self.state_of(call, ALL, (holder,), times), "barred" if is_fault else barred)

    def test_given_back_with_the_last_step(self):
        calls = {("map", 1): 2, ("drop", 0): 3, ("fork", "son", IDLE): 4, ("put", 0, 5): 3, ("take", 0): 4, ("wait",): 2,
                 ("close", 0): 2, ("send", "root"): 2}
        for plan in (standard(), ALL):
            for holder, many in calls.items():
                machine = machine_of((("map", 0), holder, ("wait",)), (("map", 2),), (("send", "root"), ("wait",)),
                                     rooms=(1,), plan=plan)
                go(machine, (0,), 2)
                for k in range(many):
                    machine.step((0,))
                    is_held = k < many - 1 and (plan.lock == "all" or holder[0] in ("map", "drop", "fork"))
                    self.assertEqual(machine.state((1,)), "barred" if is_held else "able", (holder, k))

    def test_given_back_with_the_heed_that_breaks_off_and_behind_left(self):
        machine = machine_of((("send", "root"), ("take", 0), ("put", 0, 1)), (("map", 0),), rooms=(1,),
                             plan=ALL.with_left(True))
        go(machine, (0,), 2)
        states = []
        for _ in range(3 + 4):
            machine.step((0,))
            states.append(machine.state((1,)))
        self.assertEqual(states, ["barred", "barred", "able", "barred", "barred", "barred", "able"])

    def test_a_called_hand_waits_for_the_lock(self):
        machine = machine_of((("take", 0),), (("put", 0, 1),), (("map", 0),), rooms=(1,), plan=ALL)
        go(machine, (0,), 4)
        self.assertEqual(machine.state((0,)), "asleep")
        go(machine, (1,), 2)
        self.assertEqual(machine.state((0,)), "asleep")
        go(machine, (1,), 1)
        self.assertEqual(machine.state((0,)), "able")
        go(machine, (2,), 1)
        self.assertEqual([machine.state((0,)), machine.able()], ["barred", [(2,)]])
        go(machine, (2,), 1)
        self.assertEqual(machine.state((0,)), "able")

    def test_closing(self):
        """An exit holds the one lock, but none of those of the processes; a drop of a closing holds either."""
        for plan, barred in ((standard(), "able"), (ALL, "barred")):
            machine = machine_of((("map", 0), ("fork", "kid", ((),))), (("wait",),), plan=plan)
            go(machine, (0,), 6)
            kid = (0, 1, 0)
            for k in range(7):
                self.assertEqual(machine.step(kid)[0], "drop" if k < 3 else "exit")
                self.assertEqual(machine.state((1,)), "able" if k in (2, 6) else barred)
            other = machine_of((("map", 0), ("fork", "kid", ((),))), (("wait",),), plan=plan)
            go(other, (0,), 6)
            go(other, (1,), 1)
            self.assertEqual(other.state(kid), barred)

    def test_a_fault_holds_its_lock_and_the_access_none(self):
        for plan in (standard(), ALL):
            machine = machine_of((("map", 0), ("fork", "kid", ((("take", 0),),)), ("write", 0, 0, 1), ("wait",)),
                                 (("map", 1),), rooms=(1,), plan=plan)
            go(machine, (0,), 6)
            for k in range(5):
                self.assertEqual([machine.step((0,))[0], machine.state((1,))], ["copy", "barred" if k < 4 else "able"])
            go(machine, (1,))
            self.assertEqual([machine.state((0,)), machine.step((0,))], ["able", ("access", "done")])

    def test_one_lock_of_the_pager(self):
        for outs, told in (((("root", 0),), ("out", "shut")), ((("nobody", 0),), ("out", "skip"))):
            machine = machine_of((("map", 0), ("put", 0, 1)), rooms=(1,), outs=outs, plan=ALL)
            go(machine, (0,), 2)
            go(machine, (0,), 1)
            self.assertEqual(machine.able(), [(0,)])
            go(machine, (0,), 2)
            self.assertEqual(machine.step(()), told)
            self.assertEqual(machine.state((0,)), "barred" if told[1] == "shut" else "able")

    def test_locks_of_two_processes(self):
        machine = machine_of((("fork", "kid", ((("map", 0),),)), ("map", 0)))
        go(machine, (0,), 5)
        self.assertEqual([machine.state((0, 0, 0)), machine.step((0, 0, 0))], ["able", ("map", "wipe")])
        machine = machine_of((("fork", "kid", ((("map", 0),),)), ("map", 0)), plan=ALL)
        go(machine, (0,), 5)
        self.assertEqual(machine.state((0, 0, 0)), "barred")


class OneStepTest(unittest.TestCase):
    """What is done in one step holds no lock behind it, and is looked for only once the lock is free."""

    def test_each(self):
        steps = [
            (("read", 1, 0), ("fault", "none"), "none"), (("write", 1, 0, 3), ("fault", "none"), "none"),
            (("map", 0), ("map", "there"), "there"), (("drop", 3), ("drop", "none"), "none"),
            (("fork", "root", IDLE), ("fork", "there"), "there"), (("send", "nobody"), ("send", "none"), "none"),
        ]
        for plan in (standard(), ALL):
            for call, told, telling in steps:
                machine = machine_of((("map", 0), ("wait",)), (call,), (("map", 2),), plan=plan)
                go(machine, (0,), 2)
                self.assertEqual([machine.step((1,)), machine.told()[(1,)]], [told, [telling]])
                self.assertEqual([machine.state((1,)), machine.state((2,))], ["through", "able"])

    def test_open(self):
        for plan in (standard(), ALL):
            machine = machine_of((("map", 0), ("fork", "kid", IDLE), ("write", 0, 0, 1), ("wait",)), (("map", 1),),
                                 plan=plan)
            go(machine, (0,), 6)
            go(machine, (0, 1, 0), 7)
            go(machine, (1,), 1)
            self.assertEqual(machine.state((0,)), "barred")
            go(machine, (1,), 1)
            self.assertEqual([machine.step((0,)), machine.able()], [("fault", "open"), [(0,)]])
            self.assertEqual([machine.step((0,)), machine.told()[(0,)][-1]], [("access", "done"), "done"])

    def test_what_is_found_is_found_once_the_lock_is_free(self):
        machine = machine_of((("map", 0), ("map", 1), ("drop", 0)), (("map", 1),), (("read", 1, 0),), (("drop", 0),))
        go(machine, (0,), 2 + 1)
        self.assertEqual([machine.state((k,)) for k in (1, 2, 3)], ["barred"] * 3)
        go(machine, (0,), 1)
        self.assertEqual([machine.step((1,)), machine.step((2,))], [("map", "there"), ("access", "done")])
        go(machine, (0,), 3)
        self.assertEqual([machine.step((3,)), machine.told()[(3,)]], [("drop", "none"), ["none"]])

    def test_map_behind_a_drop(self):
        machine = machine_of((("map", 0), ("drop", 0)), (("map", 0),))
        go(machine, (0,), 2 + 1)
        self.assertEqual(machine.state((1,)), "barred")
        go(machine, (0,), 2)
        self.assertEqual(machine.step((1,)), ("map", "wipe"))


class NamesTest(unittest.TestCase):
    def two(self, plan=None, first="kid", second="kid"):
        """Return a machine with a second process, which is about to fork, as the first one is."""
        uncle = ((("fork", second, IDLE),),)
        machine = machine_of((("fork", "uncle", uncle), ("fork", first, IDLE), ("wait",)), plan=plan)
        go(machine, (0,), 4)
        return machine

    def test_a_fork_to_a_name_under_way(self):
        machine = self.two()
        for k in range(4):
            self.assertEqual(machine.state((0, 0, 0)), "able" if k == 0 else "barred")
            machine.step((0,))
        self.assertEqual(machine.step((0, 0, 0)), ("fork", "there"))
        self.assertEqual([machine.told()[(0, 0, 0)], machine.hands()], [["there"], [(0,), (0, 0, 0), (0, 1, 0)]])

    def test_not_even_told_there_while_it_is_under_way(self):
        """The process is there already, but the fork is not over."""
        machine = self.two(standard().with_order("fork", ("start", "mark", "flush", "raise")))
        machine.step((0,))
        self.assertEqual([machine.there(), machine.state((0, 0, 0))], [["kid", "root", "uncle"], "barred"])
        go(machine, (0,), 3)
        self.assertEqual(machine.step((0, 0, 0)), ("fork", "there"))

    def test_a_fork_to_another_name(self):
        machine = self.two(second="son")
        machine.step((0,))
        self.assertEqual([machine.state((0, 0, 0)), machine.step((0, 0, 0))], ["able", ("fork", "mark")])

    def test_in_use_till_a_wait(self):
        kid = ((("fork", "kid", IDLE), ("take", 0), ("fork", "kid", IDLE)),)
        machine = machine_of((("fork", "kid", IDLE), ("fork", "son", kid), ("wait",)), (("put", 0, 0),), rooms=(1,))
        go(machine, (0,), 8)
        go(machine, (0, 0, 0), 4)
        self.assertEqual([machine.there(), machine.step((0, 1, 0))], [["kid", "root", "son"], ("fork", "there")])
        go(machine, (1,), 3)
        go(machine, (0,), 2)
        go(machine, (0, 1, 0), 3)
        self.assertEqual(go(machine, (0, 1, 0), 4)[0], ("fork", "mark"))
        self.assertEqual([machine.told()[(0, 1, 0)], machine.there()], [["there", 0, "done"], ["kid", "root", "son"]])

    def test_a_send_finds_no_name_that_is_not_there_yet(self):
        machine = machine_of((("fork", "kid", IDLE),), (("send", "kid"), ("send", "kid")))
        go(machine, (0,), 3)
        self.assertEqual(machine.step((1,)), ("send", "none"))
        go(machine, (0,), 1)
        self.assertEqual(machine.step((1,)), ("send", "post"))


if __name__ == "__main__":
    unittest.main()
