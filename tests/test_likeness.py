"""Likeness [70], and that runs of right plans are like the plain machine [5]."""

import copy
import random
import time
import unittest

from belowall import likeness as module
from belowall.kinds import is_alone
from belowall.likeness import is_like, is_likeness, likeness
from belowall.lost import is_lost
from belowall.plans import Plan, standard
from belowall.rules import broken
from belowall.runs import led_on, run, steps
from belowall.works import hands_in
from tests.anyvalues import any_values, truths
from tests.badruns import bad_runs
from tests.leading import IDLE, plan_by_chance, schedule_by_chance
from tests.rightplans import right_plan
from tests.slowlikeness import TooMany, slow_is_like, slow_is_likeness
from tests.test_runs import times
from tests.works import draw

TAKE, PUT = ("take", 0), ("put", 0, 1)

# Some seeds by which a run by chance is not like the plain machine: these are few.
UNLIKE_SEEDS = [895, 934, 1111, 1674, 1959, 2201, 2873, 3121, 3283, 3365, 3585, 3703, 3827, 4993, 5295, 5632, 6186, 6991,
                7005, 7134, 8183, 8246, 8425, 8527, 8894]


class LikeCase(unittest.TestCase):
    def check(self, plan, work, schedule, rows, expected=True):
        """Check of rows whether they are a likeness, by the program and by the tests' own answer."""
        self.assertIs(is_likeness(plan, work, schedule, rows), expected, rows)
        self.assertEqual(slow_is_likeness(plan, work, schedule, rows), expected)

    def check_like(self, plan, work, schedule, seed=None):
        self.assertIs(is_like(plan, work, schedule), True, seed)
        rows = likeness(plan, work, schedule)
        self.assertIs(type(rows), list)
        self.check(plan, work, schedule, rows)
        return rows

    def check_unlike(self, plan, work, schedule):
        self.assertIs(is_like(plan, work, schedule), False)
        self.assertIsNone(likeness(plan, work, schedule))


class LikeTest(LikeCase):
    def test_functions_stand_in_the_file(self):
        for function in (is_like, likeness, is_likeness):
            self.assertEqual(function.__module__, module.__name__)

    def test_a_run_one_behind_another(self):
        work = (((("map", 0), ("write", 0, 0, 4), ("read", 0, 0)),), (), ())
        rows = self.check_like(standard(), work, [(0,)] * 11)
        self.assertEqual([row[1:] for row in rows], [
            ("do", (0,), "done"), ("do", (0,), "done"), ("do", (0,), 4), ("end", (), None)])
        self.assertEqual([row[0] for row in rows][1:3], [2, 3])
        self.assertTrue(rows[0][0] in (0, 1) and 4 <= rows[3][0] <= 10)

    def test_nothing_begun(self):
        work = ((IDLE[0], (TAKE,)), (1,), ())
        for schedule in ([], [(0,), (5,)]):
            self.assertEqual(likeness(standard(), work, schedule), [])
            self.check(standard(), work, schedule, [])

    def test_moments_of_the_spans(self):
        """A map of two steps, between them those of another hand."""
        work = (((("map", 0), ("wait",)), (("send", "root"), ("wait",))), (), ())
        schedule = [(0,), (1,), (1,), (0,)]
        first, second = ("do", (0,), "done"), ("do", (1,), "done")
        for one in range(6):
            for other in range(6):
                if one <= other:
                    self.check(standard(), work, schedule, [(one, *first), (other, *second)], one <= 3 and 1 <= other <= 2)
                else:
                    self.check(standard(), work, schedule, [(other, *second), (one, *first)], one <= 3 and 1 <= other <= 2)
        for rows in ([(0, *first)], [(1, *second)], [(0, *first), (1, *second), (2, *second)], []):
            self.check(standard(), work, schedule, rows, False)

    def test_doings_at_one_moment_may_stand_on_either_side(self):
        work = (((PUT, ("wait",)), (("put", 0, 2), ("wait",))), (2,), ())
        plan = standard().with_wake("put", "none")
        schedule = [(0,), (1,), (1,), (0,)]
        first, second = (1, "do", (0,), "done"), (1, "do", (1,), "done")
        self.check(plan, work, schedule, [first, second])
        self.check(plan, work, schedule, [second, first])
        # Apart they stand in one order only.
        schedule = [(0,), (0,), (1,), (1,)]
        self.check(plan, work, schedule, [first, (2, "do", (1,), "done")])
        self.check(plan, work, schedule, [(2, "do", (1,), "done"), first], False)
        self.check(plan, work, schedule, [(2, "do", (1,), "done"), (2, "do", (0,), "done")], False)

    def test_a_call_begun_and_not_done_may_stand_in_the_row_or_not(self):
        work = (((PUT, ("wait",)), (("wait",),)), (2,), ())
        schedule = [(0,), (0,)]
        self.assertEqual([row[0] for row in steps(standard(), work, schedule)], [0, 1])
        for moment in (0, 1, 2, 7, 10 ** 39):
            self.check(standard(), work, schedule, [(moment, "do", (0,), "done")])
        self.check(standard(), work, schedule, [])
        for rows in ([(0, "do", (0,), "closed")], [(0, "do", (0,), "done")] * 2, [(0, "do", (1,), "none")],
                     [(0, "do", (0,), "done"), (1, "do", (0,), "none")], [(0, "break", (0,), "broken")]):
            self.check(standard(), work, schedule, rows, False)

    def test_a_call_begun_and_not_done_that_has_to_stand_in_the_row(self):
        """A take tells what a put has put in that is not done; it stands not ahead of the put's first step."""
        work = (((PUT,), (TAKE,), (("wait",),)), (1,), ())
        plan = standard()
        schedule = [(2,), (2,), (0,), (0,), (1,), (1,), (1,)]
        rows = self.check_like(plan, work, schedule)
        self.assertEqual([row[1:] for row in rows], [("do", (2,), "none"), ("do", (0,), "done"), ("do", (1,), 1)])
        self.check(plan, work, schedule, [(0, "do", (2,), "none"), (2, "do", (0,), "done"), (6, "do", (1,), 1)])
        self.check(plan, work, schedule, [(1, "do", (2,), "none"), (1, "do", (0,), "done"), (6, "do", (1,), 1)], False)
        self.check(plan, work, schedule, [(0, "do", (2,), "none"), (4, "do", (1,), 1)], False)

    def test_a_call_that_is_not_done_may_be_broken_off(self):
        work = (((("send", "root"), TAKE), (("wait",),)), (1,), ())
        plan = standard()
        schedule = times(((0,), 4))
        sent = (0, "do", (0,), "done")
        for rows, expected in [([sent], True), ([sent, (2, "break", (0,), "broken")], True),
                               ([sent, (1, "break", (0,), "broken")], False),
                               ([sent, (2, "do", (0,), "broken")], False), ([sent, (2, "break", (0,), None)], False)]:
            self.check(plan, work, schedule, rows, expected)

    def test_ends(self):
        """The end of a process stands in the row just once if its closing is over, at most once else."""
        work = (((("map", 0),), ()), (), ())
        schedule = times(((0,), 2 + 3 + 4))
        mapped, end = (1, "do", (0,), "done"), ("end", (), None)
        for moment in range(12):
            self.check(standard(), work, schedule, [mapped, (moment, *end)], 2 <= moment <= 8)
            self.check(standard(), work, schedule[:6], [mapped, (moment, *end)], moment >= 2)
            self.check(standard(), work, schedule[:2], [mapped, (moment, *end)], False)
        self.check(standard(), work, schedule, [mapped], False)
        self.check(standard(), work, schedule[:6], [mapped])
        self.check(standard(), work, schedule, [mapped, (3, *end), (4, *end)], False)
        self.check(standard(), work, schedule, [mapped, (3, "end", (), "done")], False)

    def test_a_wait_tells_ahead_of_the_last_step_of_the_closing(self):
        work = (((("fork", "kid", IDLE), ("wait",)),), (), ())
        schedule = times(((0,), 4), ((0, 0, 0), 3), ((0,), 2))
        rows = self.check_like(standard(), work, schedule)
        self.assertEqual([row[1:] for row in rows], [
            ("do", (0,), "done"), ("end", (0, 0), None), ("do", (0,), "kid")])
        self.check(standard(), work, schedule, [rows[0], rows[2]], False)
        self.check_like(standard(), work, schedule + [(0, 0, 0)])

    def test_a_wait_of_several_children(self):
        """The run tells the least name that has ended by then; a row may have more of them ended."""
        forks = (("fork", "a", IDLE), ("fork", "b", IDLE), ("wait",), ("wait",))
        work = ((forks,), (), ())
        schedule = times(((0,), 8), ((0, 1, 0), 4), ((0, 0, 0), 3), ((0,), 4))
        rows = self.check_like(standard(), work, schedule)
        self.assertEqual([row[3] for row in rows if row[1] == "do"], ["done", "done", "a", "b"])
        schedule = times(((0,), 8), ((0, 0, 0), 2), ((0, 1, 0), 4), ((0,), 2), ((0, 0, 0), 2), ((0,), 2))
        rows = self.check_like(standard(), work, schedule)
        self.assertEqual([row[3] for row in rows if row[1] == "do"], ["done", "done", "b", "a"])
        both_ended = [(0, "do", (0,), "done"), (4, "do", (0,), "done"), (8, "end", (0, 0), None), (10, "end", (0, 1), None),
                      (14, "do", (0,), "b"), (18, "do", (0,), "a")]
        self.check(standard(), work, schedule, both_ended)
        self.check(standard(), work, schedule, both_ended[:4] + [(14, "do", (0,), "a"), (18, "do", (0,), "b")], False)

    def test_children_with_the_names_of_words(self):
        """A wait may tell "none" and "broken" of children, and there is no child then, or no flag."""
        for name in ("none", "broken"):
            work = (((("fork", name, IDLE), ("wait",), ("wait",), ("wait",)),), (), ())
            schedule = led_on(standard(), work, times(((0,), 4), ((0, 0, 0), 4)))
            rows = self.check_like(standard(), work, schedule)
            self.assertEqual([row[3] for row in rows if row[2] == (0,)], ["done", name, "none", "none"])
            self.assertEqual({row[1] for row in rows}, {"do", "end"})
        work = (((("fork", "broken", ((TAKE,),)), ("send", "root"), ("wait",)),), (1,), ())
        rows = self.check_like(standard(), work, led_on(standard(), work, []))
        self.assertEqual([row[1] for row in rows], ["do", "do", "break", "end"])
        wrong = [(row[0], "do", *row[2:]) if row[1] == "break" else row for row in rows]
        self.check(standard(), work, led_on(standard(), work, []), wrong, False)

    def test_a_wait_that_tells_a_child_called_none(self):
        """It could tell "none" ahead of the fork, too, but then the name were in use by the next one."""
        work = (((("wait",),), (("fork", "none", IDLE), ("fork", "none", IDLE), ("wait",))), (), ())
        schedule = times(((0,), 1), ((1,), 4), ((1, 0, 0), 4), ((0,), 1), ((1,), 4))
        self.assertEqual(run(standard(), work, schedule).told()[(1,)], ["done", "done"])
        rows = self.check_like(standard(), work, schedule)
        self.assertEqual([row[2] for row in rows], [(1,), (1, 0), (0,), (1,)])
        self.check(standard(), work, schedule, [(0, "do", (0,), "none")] + rows[:2] + rows[3:], False)

    def test_a_write_of_what_stands_there_already(self):
        """It may have to stand behind a later write of another hand."""
        work = (((("map", 0), ("write", 0, 0, 1)), (("write", 0, 0, 0), ("read", 0, 0), ("wait",))), (),
                (("root", 0), ("root", 0)))
        schedule = times(((0,), 2), ((), 4), ((0,), 3), ((), 4), ((1,), 3), ((0,), 1), ((1,), 2))
        self.assertEqual(run(standard(), work, schedule).told(), {(0,): ["done", "done"], (1,): ["done", 0]})
        rows = self.check_like(standard(), work, schedule)
        self.assertEqual([row[2] for row in rows], [(0,), (0,), (1,), (1,)])

    def test_nothing_is_changed_and_what_is_told_is_new(self):
        work = (((PUT, ("map", 0)), (TAKE,)), (1,), ())
        schedule = led_on(standard(), work, [])
        given = copy.deepcopy((work, schedule))
        rows = likeness(standard(), work, schedule)
        before = copy.deepcopy(rows)
        rows.clear()
        self.assertEqual(likeness(standard(), work, schedule), before)
        self.assertTrue(is_likeness(standard(), work, schedule, before))
        self.assertEqual((work, schedule), given)


class AnyValueTest(LikeCase):
    work = (((("map", 1), ("write", 1, 0, 1), ("read", 1, 0), PUT, ("put", 0, 0), ("drain", 0)), (("wait",),)), (2,), ())

    def test_any_value(self):
        schedule = led_on(standard(), self.work, [])
        for thing in any_values() + truths():
            self.assertIs(is_likeness(standard(), self.work, schedule, thing), False)
            self.assertIs(is_likeness(standard(), self.work, schedule, [thing]), False)
        self.assertIs(is_likeness(standard(), self.work, [], []), True)
        for thing in [(), {}, "", None, False, 0]:
            self.assertIs(is_likeness(standard(), self.work, [], thing), False)

    def test_parts_exchanged_left_out_and_added(self):
        schedule = led_on(standard(), self.work, [])
        rows = likeness(standard(), self.work, schedule)
        self.assertEqual([row[3] for row in rows if row[2] == (0,)], ["done", "done", 1, "done", "done", (1, 0)])
        self.assertTrue(is_likeness(standard(), self.work, schedule, rows))
        self.assertIs(is_likeness(standard(), self.work, schedule, tuple(rows)), False)
        for at, row in enumerate(rows):
            for k in range(4):
                for thing in any_values() + truths():
                    if k == 3 and row[1] == "end" and thing is None or type(thing) is type(row[k]) and thing == row[k]:
                        continue
                    if k == 0 and thing == 12 and rows[at - 1][0] <= 12 <= (rows + [(99,)])[at + 1][0]:
                        continue
                    other = rows[:at] + [(*row[:k], thing, *row[k + 1:])] + rows[at + 1:]
                    self.assertIs(is_likeness(standard(), self.work, schedule, other), False, other[at])
            for other in ([list(row)], [row[:3]], [(*row, None)], [], [row, row], [row, None]):
                self.assertIs(is_likeness(standard(), self.work, schedule, rows[:at] + other + rows[at + 1:]), False)

    def test_truths_are_not_taken_for_integers(self):
        schedule = led_on(standard(), self.work, [])
        rows = likeness(standard(), self.work, schedule)
        at = {row[3]: k for k, row in enumerate(rows) if row[2] == (0,)}
        self.assertEqual(rows[0][0], 0)
        for k, other in [(at[1], (*rows[at[1]][:3], True)), (at[(1, 0)], (*rows[at[(1, 0)]][:3], (True, 0))),
                         (at[(1, 0)], (*rows[at[(1, 0)]][:3], (1, False))), (at[(1, 0)], (*rows[at[(1, 0)]][:3], [1, 0])),
                         (0, (False, *rows[0][1:])), (at[1], (*rows[at[1]][:2], (False,), 1)),
                         (at[(1, 0)], (*rows[at[(1, 0)]][:3], (1,))), (at[(1, 0)], (*rows[at[(1, 0)]][:3], (1, 0, 0)))]:
            self.assertIs(is_likeness(standard(), self.work, schedule, rows[:k] + [other] + rows[k + 1:]), False)


class UnlikeTest(LikeCase):
    def test_runs_by_plans_that_break_one_rule(self):
        for rule, plan, work, schedule, fault in bad_runs():
            with self.subTest(rule=rule):
                self.assertEqual(broken(plan, is_alone(work)), [rule])
                self.assertEqual(len(steps(plan, work, schedule)), len(schedule))
                if fault == "unlike":
                    self.check_unlike(plan, work, schedule)
                    self.assertFalse(slow_is_like(plan, work, schedule))
                    # Nor can it be like behind any further steps.
                    self.check_unlike(plan, work, led_on(plan, work, schedule))
                else:
                    self.check_like(plan, work, schedule)
                    self.assertTrue(is_lost(run(plan, work, schedule)))
                by_standard = standard().with_passes(True)
                self.check_like(by_standard, work, led_on(by_standard, work, schedule))
                self.assertFalse(is_lost(run(by_standard, work, led_on(by_standard, work, schedule))))

    def test_all_rules_of_order_are_shown(self):
        self.assertEqual(len({row[0] for row in bad_runs()}), 24 + 5)

    def test_beginnings_of_a_run_that_is_not_like(self):
        """A run stays like till the step that goes wrong."""
        for rule, plan, work, schedule, fault in bad_runs():
            likes = [is_like(plan, work, schedule[:k]) for k in range(len(schedule) + 1)]
            self.assertEqual(likes, sorted(likes, reverse=True))
            self.assertTrue(likes[0])


class ChanceTest(LikeCase):
    def test_runs_of_right_plans_are_like_and_not_lost(self):
        for seed in range(500):
            chance = random.Random(seed)
            alone = seed % 3 == 0
            work = draw(chance, alone)
            plan = standard() if seed % 5 == 0 else right_plan(chance, alone)
            schedule = schedule_by_chance(chance, work, chance.randrange(5, 160))
            self.check_like(plan, work, schedule, seed)
            whole = led_on(plan, work, schedule)
            self.check_like(plan, work, whole, seed)
            self.assertEqual(run(plan, work, whole).able(), [])
            self.assertIs(is_lost(run(plan, work, whole)), False, seed)

    def test_runs_of_any_plans_as_slow_answers_tell(self):
        told = {True: 0, False: 0, None: 0}
        for seed in list(range(300)) + UNLIKE_SEEDS:
            chance = random.Random(seed)
            work, plan = draw(chance, chance.random() < 0.2), plan_by_chance(chance)
            schedule = schedule_by_chance(chance, work, chance.randrange(5, 80))
            try:
                answer = slow_is_like(plan, work, schedule, 1500)
            except TooMany:
                told[None] += 1
                continue
            told[answer] += 1
            self.assertIs(is_like(plan, work, schedule), answer, seed)
            if answer:
                self.check_changed(chance, plan, work, schedule)
            else:
                self.assertIsNone(likeness(plan, work, schedule))
        self.assertGreater(told[True], 250)
        self.assertGreater(told[False], 20)
        self.assertLess(told[None], 20)

    def check_changed(self, chance, plan, work, schedule):
        """Check rows with one thing otherwise against a slow answer."""
        rows = likeness(plan, work, schedule)
        self.check(plan, work, schedule, rows)
        for _ in range(8 * (len(rows) > 0)):
            other = list(rows)
            at, by = chance.randrange(len(rows)), chance.randrange(len(rows))
            sort = chance.choice(["moment", "order", "without", "twice", "telling", "doing"])
            if sort == "moment":
                other[at] = (max(0, other[at][0] + chance.choice([-3, -1, 1, 4])), *other[at][1:])
            elif sort == "order":
                other[at], other[by] = (other[at][0], *other[by][1:]), (other[by][0], *other[at][1:])
            elif sort == "without":
                del other[at]
            elif sort == "twice":
                other.insert(by, other[at])
            elif sort == "telling":
                other[at] = (*other[at][:3], chance.choice([0, 1, "done", "none", "broken", None, (1,), "a", "there"]))
            else:
                other[at] = (other[at][0], *other[by][1:3], other[at][3])
            self.check(plan, work, schedule, other, slow_is_likeness(plan, work, schedule, other))


class TimeTest(LikeCase):
    """Runs with seven hands, all within their calls at once."""

    def work(self, chance):
        words = ["put"] * 3 + ["take"] * 2 + ["drain", "send", "wait", "write", "write", "read", "map"]
        calls = [tuple(self.call(chance, chance.choice(words)) for _ in range(7)) for _ in range(7)]
        if chance.random() < 0.5:
            return (((("map", 0),) + calls[0], *calls[1:]), (3, 2), (("root", 0),))
        fork = ("fork", "a", (calls[0], calls[1], calls[2]))
        return (((("map", 0), fork) + calls[3][:5], *calls[4:]), (3, 3), (("root", 0), ("a", 0)))

    def call(self, chance, word):
        pipe, page, cell, value = (chance.randrange(2) for _ in range(4))
        return {"put": ("put", pipe, chance.randrange(9)), "take": ("take", pipe), "drain": ("drain", pipe),
                "send": ("send", chance.choice(["root", "a"])), "wait": ("wait",), "map": ("map", page),
                "write": ("write", page, cell, 1 + value), "read": ("read", page, cell)}[word]

    def test_time(self):
        plan = Plan("each", {"map": ("put", "wipe"), "copy": ("flush", "shut", "lower", "put", "fill"),
                             "out": ("flush", "save", "lower", "shut")}, {}, True, True)
        slowest, unlike = 0, 0
        for seed in range(120):
            chance = random.Random(seed)
            work = self.work(chance)
            agents = [()] + hands_in(work)
            schedule = [agent for _ in range(30) for agent in chance.sample(agents, len(agents))]
            for length in (60, 160):
                begun = time.process_time()
                unlike += not is_like(plan, work, schedule[:length])
                slowest = max(slowest, time.process_time() - begun)
        self.assertLess(slowest, 3)
        self.assertGreater(unlike, 10)


if __name__ == "__main__":
    unittest.main()
