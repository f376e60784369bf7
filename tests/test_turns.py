"""Whose steps have to be tried next where all runs are asked for; what is left out so is a matter of time alone."""

import unittest

from belowall.everyrun import BadSearch
from belowall.machine import Machine
from belowall.plans import standard
from belowall.turns import Turns
from tests.leading import go, machine_of
from tests.test_everyrun import HARD_WORKS, MAP, PUT, READ, TAKE, WRITE

KID = ("fork", "kid", ((PUT, READ),))


class TurnsTest(unittest.TestCase):
    def turns(self, hands, agent, ahead, times, plan=None, outs=(("nobody", 0),)):
        """Return for each of so many steps of an agent, behind some others, whether just it has to be tried behind it.

        Somebody else can always do a step: the pager, if it has nothing else to do.
        """
        machine = machine_of(*hands, rooms=(1,), plan=plan, outs=outs)
        for other, many in ahead:
            go(machine, other, many)
        turns = Turns((hands, (1,), outs))
        found = []
        for _ in range(times):
            machine.step(agent)
            agents = turns.agents(machine.kernel)
            self.assertIn(agents, ([agent], machine.able()))
            self.assertNotEqual(machine.able(), [agent])
            found.append(agents == [agent])
        return found

    def test_a_fork_and_a_drop(self):
        """The marks and flushes of a process with one hand are its own; a raise and a start are not."""
        hands = ((MAP, KID, ("drop", 0), READ),)
        ahead = [((0,), 2)]
        self.assertEqual(self.turns(hands, (0,), ahead, 2), [True, True])
        self.assertEqual(self.turns(hands, (0,), ahead, 7), [True, True, False, False, True, True, False])

    def test_another_hand_that_has_calls_left(self):
        hands = ((MAP, KID, READ), (READ,))
        self.assertEqual(self.turns(hands, (0,), [((0,), 2)], 4), [False] * 4)
        self.assertEqual(self.turns(hands, (0,), [((0,), 2), ((1,), 1)], 4), [True, True, False, False])

    def test_taking_a_frame_is_not_private(self):
        hands = ((MAP, KID, WRITE, TAKE),)
        for order, expected in [(("shut", "flush", "fill", "put", "lower"), [False, True, False, True, False]),
                                (("fill", "lower", "shut", "flush", "put"), [False, False, True, True, False]),
                                (("put", "shut", "flush", "lower", "fill"), [False, True, True, False, False]),
                                (("flush", "put", "shut", "fill"), [False, True, True, False])]:
            plan = standard().with_order("copy", order)
            self.assertEqual(self.turns(hands, (0,), [((0,), 6)], len(order), plan), expected)
        plan = standard().with_order("map", ("put", "wipe"))
        self.assertEqual(self.turns(((MAP, KID),), (0,), [], 2, plan), [False, False])

    def test_a_fetch(self):
        hands = ((MAP, KID, READ, TAKE),)
        ahead = [((0,), 6), ((), 4)]
        for order, expected in [(("load", "put", "leave"), [False, True, False]), (("put", "leave", "load"), [False] * 3),
                                (("load", "leave", "put"), [False] * 3)]:
            plan = standard().with_order("fetch", order)
            self.assertEqual(self.turns(hands, (0,), ahead, 3, plan, (("root", 0), ("nobody", 0))), expected)

    def test_the_pager(self):
        hands = ((MAP, KID, READ, TAKE),)
        self.assertEqual(self.turns(hands, (), [((0,), 6)], 4, outs=(("root", 0), ("kid", 0))), [False] * 4)

    def test_an_exit(self):
        """Nobody looks at what it does, unless somebody waits."""
        hands = ((("fork", "kid", ((),)), READ),)
        self.assertEqual(self.turns(hands, (0, 0, 0), [((0,), 4)], 4), [True, True, True, False])
        hands = ((("fork", "kid", ((),)), READ, ("wait",)),)
        self.assertEqual(self.turns(hands, (0, 0, 0), [((0,), 4)], 4), [False] * 4)
        hands = ((("fork", "kid", ((), (("wait",),))), READ),)
        self.assertEqual(self.turns(hands, (0,), [((0,), 5)], 4), [False] * 4)

    def test_calls_of_pipes(self):
        hands = ((PUT,), (TAKE,))
        self.assertEqual(self.turns(hands, (0,), [], 3), [False] * 3)

    def test_what_has_to_be_told_apart_are_few(self):
        """A million machines are but some thousands."""
        search = BadSearch(standard(), HARD_WORKS[0], True)
        while not search.is_over():
            search.look_at_level()
        self.assertEqual([search.is_lacking, search.path], [False, None])
        self.assertLess(len(search.seen), 20000)
        self.assertIsInstance(search.level, list)
        self.assertEqual(Turns(HARD_WORKS[0]).agents(Machine(standard(), HARD_WORKS[0]).kernel), [(), (0,)])


if __name__ == "__main__":
    unittest.main()
