"""Ends of processes [55]."""

import unittest

from belowall.errors import NoProcess
from belowall.plans import standard
from tests.leading import IDLE, all_hands_go, go, go_all, machine_of
from tests.tables import full_orders

EXIT = [("exit", "adopt"), ("exit", "rouse"), ("exit", "end"), ("exit", "wake")]
DROP = [("drop", "shut"), ("drop", "flush"), ("drop", "lower")]
FORK = 4


class ClosingTest(unittest.TestCase):
    def test_without_pages(self):
        machine = machine_of((("read", 0, 0),))
        self.assertEqual(go_all(machine, (0,)), [("fault", "none")] + EXIT)
        self.assertEqual([machine.state((0,)), machine.able(), machine.there()], ["through", [], ["root"]])

    def test_with_pages(self):
        machine = machine_of((("map", 0), ("map", 1)))
        self.assertEqual(go_all(machine, (0,))[4:], DROP + EXIT)
        self.assertEqual([machine.table(()), machine.frames(), machine.told()], [{}, [], {(0,): ["done", "done"]}])

    def test_the_hand_with_whose_step_the_last_call_is_done(self):
        machine = machine_of((("map", 0),), (("read", 0, 0), ("read", 0, 0)), ())
        go(machine, (1,))
        go(machine, (0,), 2)
        self.assertEqual([machine.state((0,)), machine.state((1,)), machine.state((2,))], ["through", "able", "through"])
        go(machine, (1,))
        self.assertEqual([machine.state(hand) for hand in machine.hands()], ["through", "able", "through"])
        self.assertEqual(go_all(machine, (1,)), DROP + EXIT)
        self.assertEqual([machine.state(hand) for hand in machine.hands()], ["through"] * 3)

    def test_hands_without_calls(self):
        machine = machine_of((), (), ())
        self.assertEqual([machine.able(), machine.state((1,))], [[(0,)], "through"])
        self.assertEqual([go_all(machine, (0,)), machine.able()], [EXIT, []])
        machine = machine_of((), (("map", 0),))
        self.assertEqual([machine.able(), machine.state((0,))], [[(1,)], "through"])
        self.assertEqual(go_all(machine, (1,)), [("map", "wipe"), ("map", "put")] + DROP + EXIT)

    def test_kids_without_calls_have_the_pages_of_the_fork(self):
        machine = machine_of((("map", 0), ("fork", "kid", ((), ())), ("wait",)))
        go(machine, (0,), 2 + FORK)
        self.assertEqual([machine.state((0, 1, 0)), machine.state((0, 1, 1))], ["able", "through"])
        self.assertEqual(go_all(machine, (0, 1, 0)), DROP + EXIT)
        self.assertEqual([machine.frames(), machine.table((0, 1))], [[(0, 1, 0, 0)], {}])

    def test_orders_of_the_exit(self):
        for order in full_orders("exit"):
            machine = machine_of((("send", "root"),), plan=standard().with_order("exit", order))
            go(machine, (0,), 2)
            self.assertEqual(machine.flags(), ["root"])
            for step in order:
                self.assertEqual(machine.step((0,)), ("exit", step))
                is_over = order.index("end") <= order.index(step)
                self.assertEqual(machine.flags(), [] if is_over else ["root"])

    def test_the_flag_stays_down(self):
        machine = machine_of((("fork", "kid", IDLE), ("send", "kid"), ("send", "kid")))
        go(machine, (0,), FORK)
        go(machine, (0, 0, 0), 2)
        go(machine, (0,), 2)
        self.assertEqual(machine.flags(), ["kid"])
        go(machine, (0, 0, 0))
        self.assertEqual(machine.flags(), [])
        go(machine, (0,), 2)
        self.assertEqual(machine.flags(), [])

    def test_there_until_a_wait_tells_it(self):
        machine = machine_of((("fork", "kid", IDLE), ("wait",), ("fork", "kid", IDLE), ("wait",), ("wait",)))
        go(machine, (0,), FORK)
        go_all(machine, (0, 0, 0))
        self.assertEqual([machine.there(), machine.table((0, 0)), machine.waiters((0, 0))], [["kid", "root"], {}, []])
        go(machine, (0,), 2)
        self.assertEqual(machine.there(), ["root"])
        for asked in (machine.table, machine.waiters):
            with self.assertRaises(NoProcess):
                asked((0, 0))
        self.assertEqual([machine.hands(), machine.state((0, 0, 0)), machine.cache((0, 0, 0)), machine.told()[(0, 0, 0)]],
                         [[(0,), (0, 0, 0)], "through", {}, []])
        go(machine, (0,), FORK)
        self.assertEqual([machine.there(), machine.table((0, 2))], [["kid", "root"], {}])
        go_all(machine, (0, 2, 0))
        go(machine, (0,), 4)
        self.assertEqual(machine.told()[(0,)], ["done", "kid", "done", "kid", "none"])


class FamilyTest(unittest.TestCase):
    """root forks kid, which forks son, which takes; root waits, and so does kid, if it is told so."""

    def family(self, kid_waits=True, plan=None, root=(("wait",), ("wait",)), son=((("take", 0),),)):
        kid = ((("fork", "son", son),) + (("wait",),) * kid_waits,)
        machine = machine_of((("fork", "kid", kid),) + root, (("put", 0, 1), ("put", 0, 1)), rooms=(1,), plan=plan)
        go(machine, (0,), FORK)
        go(machine, (0, 0, 0), FORK)
        return machine

    def test_wake_calls_those_who_wait_in_the_parent(self):
        machine = self.family(son=IDLE)
        go(machine, (0,), 4)
        go(machine, (0, 0, 0), 4)
        son = (0, 0, 0, 0, 0)
        self.assertEqual(go(machine, son, 3), EXIT[:3])
        self.assertEqual([machine.waiters(()), machine.waiters((0, 0))], [[((0,), True)], [((0, 0, 0), False)]])
        self.assertEqual(machine.state((0, 0, 0)), "asleep")
        go(machine, son)
        self.assertEqual([machine.waiters((0, 0)), machine.state((0, 0, 0))], [[((0, 0, 0), True)], "able"])

    def test_children_are_handed_on(self):
        machine = self.family(kid_waits=False)
        self.assertEqual(go(machine, (0, 0, 0)), [("exit", "adopt")])
        go(machine, (0,), 4)
        self.assertEqual(machine.waiters(()), [((0,), False)])
        go(machine, (0, 0, 0))
        self.assertEqual(machine.waiters(()), [((0,), True)])
        go(machine, (0, 0, 0), 2)
        self.assertEqual(go(machine, (0,), 2), [("await", "join"), ("await", "try")])
        self.assertEqual([machine.told()[(0,)], machine.there()], [["done", "kid"], ["root", "son"]])
        # The son is a child of the first process by now, and so the wait does not tell "none".
        go(machine, (0,), 4)
        self.assertEqual(machine.state((0,)), "asleep")
        son = (0, 0, 0, 0, 0)
        go(machine, (1,), 3)
        self.assertEqual(go(machine, son, 3 + 2)[3:], EXIT[:2])
        go(machine, (0,), 4)
        self.assertEqual([go(machine, son), machine.state((0,))], [[EXIT[2]], "asleep"])
        self.assertEqual([go(machine, son), machine.state((0,))], [[EXIT[3]], "able"])
        all_hands_go(machine)
        self.assertEqual([machine.told()[(0,)], machine.there()], [["done", "kid", "son"], ["root"]])

    def test_not_handed_on_before_adopt(self):
        machine = self.family(kid_waits=False, plan=standard().with_order("exit", ("end", "wake", "rouse", "adopt")))
        go(machine, (0, 0, 0), 2)
        go(machine, (0,), 2)
        self.assertEqual([machine.told()[(0,)], machine.there()], [["done", "kid"], ["root", "son"]])
        # The kid is told, and its exit goes on; its son is nobody's till the adopt.
        go(machine, (0,), 2)
        self.assertEqual(machine.told()[(0,)], ["done", "kid", "none"])
        self.assertEqual([machine.state((0, 0, 0)), go_all(machine, (0, 0, 0))], ["able", [EXIT[1], EXIT[0]]])
        self.assertEqual(machine.state((0, 0, 0)), "through")

    def test_handed_on_though_it_was_told(self):
        machine = self.family(kid_waits=False, plan=standard().with_order("exit", ("end", "wake", "rouse", "adopt")))
        go(machine, (0, 0, 0), 2)
        go(machine, (0,), 2)
        go(machine, (0, 0, 0), 2)
        go(machine, (0,), 4)
        self.assertEqual([machine.state((0,)), machine.told()[(0,)]], ["asleep", ["done", "kid"]])

    def test_a_wait_tells_a_process_behind_its_end(self):
        machine = machine_of((("fork", "kid", IDLE), ("wait",), ("wait",)))
        go(machine, (0,), FORK)
        go(machine, (0, 0, 0), 3)
        self.assertEqual(go(machine, (0,), 2), [("await", "join"), ("await", "try")])
        self.assertEqual([machine.told()[(0,)], machine.there(), machine.able()], [["done", "kid"], ["root"],
                                                                                   [(0,), (0, 0, 0)]])
        self.assertEqual([go_all(machine, (0, 0, 0)), machine.state((0, 0, 0))], [[("exit", "wake")], "through"])

    def test_wake_of_one_that_was_told(self):
        """It calls those who wait in the process whose name it keeps, though it is there no longer."""
        machine = machine_of((("fork", "kid", IDLE), ("fork", "son", ((("take", 0),),)), ("wait",)), (("wait",),),
                             rooms=(1,))
        go(machine, (0,), FORK + FORK)
        go(machine, (0, 0, 0), 3)
        go(machine, (0,), 2)
        go(machine, (1,), 4)
        self.assertEqual([machine.there(), machine.waiters(())], [["root", "son"], [((1,), False)]])
        go(machine, (0, 0, 0))
        self.assertEqual(machine.waiters(()), [((1,), True)])

    def test_adopt_goes_by_the_name(self):
        """Children of a later process with the name of one that is still in its exit are handed on, too."""
        kid = ((("fork", "son", ((("take", 0),),)), ("wait",)),)
        machine = machine_of((("fork", "kid", IDLE), ("wait",), ("fork", "kid", kid), ("wait",)), (("wait",),), rooms=(1,),
                             plan=standard().with_order("exit", ("rouse", "end", "wake", "adopt")))
        go(machine, (0,), FORK)
        go(machine, (0, 0, 0), 3)
        go(machine, (0,), 2 + FORK)
        go(machine, (0, 2, 0), FORK)
        self.assertEqual(go(machine, (0, 0, 0)), [("exit", "adopt")])
        # The son keeps the name "root" from now on: the second kid has no children.
        self.assertEqual(go(machine, (0, 2, 0), 2), [("await", "join"), ("await", "try")])
        self.assertEqual(machine.told()[(0, 2, 0)], ["done", "none"])

    def test_the_first_process_keeps_its_children(self):
        machine = machine_of((("fork", "kid", ((("take", 0),),)),), rooms=(1,))
        go(machine, (0,), FORK)
        self.assertEqual(go_all(machine, (0,)), EXIT)
        self.assertEqual([machine.there(), machine.waiters(())], [["kid", "root"], []])

    def test_exit_calls_nobody_in_other_processes(self):
        machine = machine_of((("fork", "kid", ((("fork", "son", ((("take", 0),),)), ("wait",)),)),
                              ("fork", "uncle", IDLE), ("wait",)), rooms=(1,))
        go(machine, (0,), FORK)
        go(machine, (0, 0, 0), FORK + 4)
        go(machine, (0,), FORK + 4)
        go(machine, (0, 1, 0), 4)
        self.assertEqual([machine.waiters((0, 0)), machine.waiters(())], [[((0, 0, 0), False)], [((0,), True)]])


if __name__ == "__main__":
    unittest.main()
