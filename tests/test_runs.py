"""Runs [62]."""

import copy
import random
import unittest

from belowall import runs as module
from belowall.machine import Machine
from belowall.plans import standard
from belowall.runs import closings, history, led_on, run, steps
from tests.leading import IDLE, looks, plan_by_chance, schedule_by_chance
from tests.works import draw

TAKE, PUT = ("take", 0), ("put", 0, 1)


def times(*pairs):
    """Return a schedule by pairs (agent, how often)."""
    return [agent for agent, many in pairs for _ in range(many)]


def slow_run(plan, work, schedule):
    """Return the Machine behind a run, its steps, history and closings, by what Machines tell alone."""
    machine = Machine(plan, work)
    done, calls, ends = [], {}, {}
    for index, agent in enumerate(schedule):
        if agent not in machine.able():
            continue
        told = machine.told().get(agent)
        done.append((index, agent, *machine.step(agent)))
        if agent == ():
            continue
        is_closing = done[-1][2] == "exit" or len(told) == len(calls_of_hand(work, agent))
        if is_closing:
            first = ends.get(agent[:-1], (index,))[0]
            ends[agent[:-1]] = (first, index if machine.state(agent) == "through" else None)
            continue
        first = calls.get((agent, len(told)), (index,))[0]
        behind = machine.told()[agent]
        is_done = len(behind) > len(told)
        calls[agent, len(told)] = (first, index, behind[-1]) if is_done else (first, None, None)
    return (machine, done, sorted((*at, *span) for at, span in calls.items()),
            sorted((at, *span) for at, span in ends.items()))


def calls_of_hand(work, hand):
    """Return the calls of a hand of a work."""
    calls = work[0][hand[0]]
    for k, m in zip(hand[1::2], hand[2::2]):
        calls = calls[k][2][m]
    return calls


class RunTest(unittest.TestCase):
    def test_functions_stand_in_the_file(self):
        for function in (run, steps, history, closings, led_on):
            self.assertEqual(function.__module__, module.__name__)

    def test_entries_that_are_passed_over(self):
        work = (((("map", 0),), (("map", 0),)), (), (("root", 0),))
        schedule = [(1,), (0,), (), (7,), (0, 0, 0), (1,), (0,), (0,), (), (1, 5, 0), (), (2,)]
        self.assertEqual(steps(standard(), work, schedule), [
            (0, (1,), "map", "wipe"), (5, (1,), "map", "put"), (6, (0,), "map", "there"), (7, (0,), "drop", "shut")])
        machine = run(standard(), work, schedule)
        self.assertIsInstance(machine, Machine)
        self.assertEqual([machine.told(), machine.able()], [{(0,): ["there"], (1,): ["done"]}, [(0,)]])
        self.assertEqual(history(standard(), work, schedule), [((0,), 0, 6, 6, "there"), ((1,), 0, 0, 5, "done")])
        self.assertEqual(closings(standard(), work, schedule), [((), 7, None)])

    def test_nothing(self):
        work = (((("map", 0),),), (), (("root", 0),))
        for schedule in ([], [(1,), (3,), (0, 0, 0)]):
            self.assertEqual(steps(standard(), work, schedule), [])
            self.assertEqual(history(standard(), work, schedule), [])
            self.assertEqual(closings(standard(), work, schedule), [])
            self.assertEqual(looks(run(standard(), work, schedule), work), looks(Machine(standard(), work), work))

    def test_history_of_faults(self):
        """Steps of faults belong to their access."""
        kid = ((("read", 0, 0),),)
        work = (((("map", 0), ("fork", "kid", kid), ("write", 0, 0, 1), ("read", 1, 0)),), (), ())
        schedule = times(((0,), 6), ((0,), 2), ((0, 1, 0), 1), ((0,), 4), ((0,), 1))
        self.assertEqual(history(standard(), work, schedule), [
            ((0,), 0, 0, 1, "done"), ((0,), 1, 2, 5, "done"), ((0,), 2, 6, 12, "done"), ((0,), 3, 13, 13, "none"),
            ((0, 1, 0), 0, 8, 8, 0)])
        self.assertEqual(history(standard(), work, schedule[:12])[2], ((0,), 2, 6, None, None))
        opened = times(((0,), 6), ((0, 1, 0), 1 + 7), ((0,), 2))
        self.assertEqual(history(standard(), work, opened)[2], ((0,), 2, 14, 15, "done"))

    def test_history_of_a_page_that_is_fetched_twice(self):
        work = (((("map", 0), ("read", 0, 0)),), (), (("root", 0), ("root", 0)))
        schedule = times(((0,), 2), ((), 4), ((0,), 3), ((), 4), ((0,), 4))
        self.assertEqual(history(standard(), work, schedule), [((0,), 0, 0, 1, "done"), ((0,), 1, 6, 16, 0)])

    def test_history_of_awaits(self):
        """From the first join to the last of the further steps, rests and sleep between."""
        plan = standard().with_left(True)
        work = (((TAKE, TAKE), (PUT,)), (1,), ())
        schedule = times(((0,), 4), ((1,), 2), ((0,), 1), ((1,), 1), ((0,), 1), ((1,), 1), ((0,), 3), ((0,), 2))
        self.assertEqual(history(plan, work, schedule), [
            ((0,), 0, 0, 12, 1), ((0,), 1, 13, None, None), ((1,), 0, 4, 9, "done")])
        self.assertEqual(history(plan, work, schedule[:12])[0], ((0,), 0, 0, None, None))
        self.assertEqual(history(plan, work, schedule[:9]), [((0,), 0, 0, None, None), ((1,), 0, 4, None, None)])

    def test_history_of_a_call_that_is_broken_off(self):
        work = (((TAKE,), (("send", "root"), ("send", "kid"))), (1,), ())
        schedule = times(((0,), 4), ((1,), 2), ((0,), 3), ((1,), 1))
        self.assertEqual(history(standard(), work, schedule), [
            ((0,), 0, 0, 8, "broken"), ((1,), 0, 4, 5, "done"), ((1,), 1, 9, 9, "none")])

    def test_history_ascends(self):
        work = (((("fork", "a", ((("wait",),) * 2, (("wait",),))), ("wait",)), (("map", 0),)), (), ())
        schedule = times(((1,), 2), ((0,), 4), ((0, 0, 1), 2), ((0, 0, 0), 4), ((0,), 1))
        self.assertEqual([row[:4] for row in history(standard(), work, schedule)], [
            ((0,), 0, 2, 5), ((0,), 1, 12, None), ((0, 0, 0), 0, 8, 9), ((0, 0, 0), 1, 10, 11), ((0, 0, 1), 0, 6, 7),
            ((1,), 0, 0, 1)])

    def test_closings(self):
        work = (((("map", 0), ("fork", "a", IDLE), ("fork", "b", ((), (("wait",),)))),), (), ())
        schedule = times(((0,), 10), ((0, 1, 0), 7), ((0, 2, 1), 2), ((0, 2, 1), 5), ((0,), 1))
        self.assertEqual(closings(standard(), work, schedule), [((), 24, None), ((0, 1), 10, 16), ((0, 2), 19, None)])
        self.assertEqual(closings(standard(), work, schedule[:10]), [])
        whole = schedule + times(((0, 2, 1), 2), ((0,), 6))
        self.assertEqual(closings(standard(), work, whole), [((), 24, 32), ((0, 1), 10, 16), ((0, 2), 19, 26)])

    def test_closing_of_one_that_is_told_behind_its_end(self):
        work = (((("fork", "a", IDLE), ("wait",)),), (), ())
        schedule = times(((0,), 4), ((0, 0, 0), 3), ((0,), 2), ((0, 0, 0), 1))
        self.assertEqual(closings(standard(), work, schedule), [((0, 0), 4, 9)])
        self.assertEqual(closings(standard(), work, schedule[:9]), [((0, 0), 4, None)])

    def test_led_on_to_a_whole_run(self):
        work = (((("map", 0), ("fork", "a", IDLE)), (("wait",),)), (), (("root", 0),))
        given = [(0,), (5,), ()]
        told = led_on(standard(), work, given)
        self.assertEqual(told[:3], given)
        self.assertEqual(given, [(0,), (5,), ()])
        machine = run(standard(), work, told[:3])
        for agent in told[3:]:
            self.assertEqual(agent, machine.able()[0])
            machine.step(agent)
        self.assertEqual(machine.able(), [])
        self.assertEqual(told[3:9], [(0,), (), (), (), (), (0,)])
        self.assertEqual(led_on(standard(), work, told), told)
        self.assertIsNot(led_on(standard(), work, told), told)

    def test_led_on_to_800_entries(self):
        work = (((("map", 0), ("map", 1)),), (), ())
        for many in (790, 797, 798, 799):
            told = led_on(standard(), work, [(9,)] * many)
            self.assertEqual(told, [(9,)] * many + [(0,)] * (800 - many))
        for many in (800, 801, 950):
            self.assertEqual(led_on(standard(), work, [(9,)] * many), [(9,)] * many)
        self.assertEqual(led_on(standard(), work, [(9,)] * 780), [(9,)] * 780 + [(0,)] * 11)

    def test_nothing_is_changed_and_what_is_told_is_new(self):
        work = (((TAKE, ("map", 0)), (PUT,)), (1,), ())
        plan, schedule = standard(), times(((0,), 4), ((1,), 7), ((0,), 5))
        given = copy.deepcopy((work, schedule))
        for function in (steps, history, closings, led_on):
            told = function(plan, work, schedule)
            before = copy.deepcopy(told)
            told.clear()
            self.assertEqual(function(plan, work, schedule), before)
        run(plan, work, schedule).step((0,))
        self.assertEqual(((work, schedule), plan == standard()), (given, True))

    def test_by_chance(self):
        for seed in range(300):
            chance = random.Random(seed)
            work, plan = draw(chance), plan_by_chance(chance)
            schedule = schedule_by_chance(chance, work, chance.randrange(0, 130))
            if chance.random() < 0.3:
                schedule = led_on(plan, work, schedule)
            machine, done, calls, ends = slow_run(plan, work, schedule)
            self.assertEqual(looks(run(plan, work, schedule), work), looks(machine, work))
            self.assertEqual(steps(plan, work, schedule), done)
            self.assertEqual(history(plan, work, schedule), calls)
            self.assertEqual(closings(plan, work, schedule), ends)


if __name__ == "__main__":
    unittest.main()
