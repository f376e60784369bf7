"""Bad runs [72], and that a plan has one exactly if it breaks a rule that is asked [5], a small one [6]."""

import copy
import itertools
import random
import time
import unittest

from belowall import bad as module
from belowall.bad import bad_run, bad_runs, is_bad
from belowall.kinds import is_alone, is_schedule, is_work
from belowall.likeness import is_like
from belowall.lost import is_lost
from belowall.plans import Plan, standard
from belowall.runs import led_on, run
from belowall.works import hands_in, pages_in
from tests import badruns
from tests.leading import plan_by_chance
from tests.rightplans import right_plan
from tests.tables import (
    DEEDS, SETTINGS, SORTS, SPARE, WAKING, WORDS, every_order, every_wakes, rule_rows, slow_asked, slow_broken,
)

LOCKS = ("each", "all")


def about(plan, rule):
    """Return the Plan by which the run of a rule in bad_runs has to be bad."""
    if rule in WAKING:
        passes = plan.passes if rule == ("passes",) else True
        return Plan(plan.lock, {"await": plan.order("await")}, plan.wakes(), plan.left, passes)
    return standard().with_lock(plan.lock).with_order(rule[0], plan.order(rule[0])).with_passes(True)


def told(plan):
    return (plan.lock, plan.orders(), plan.wakes(), plan.left, plan.passes)


class BadCase(unittest.TestCase):
    def check_run(self, plan, alone, found):
        """Check of a run that it is bad by a plan, and small."""
        self.assertIs(type(found), tuple)
        work, schedule = found
        self.assertTrue(is_work(work) and is_schedule(schedule))
        self.assertLessEqual(len(hands_in(work)), 5)
        self.assertLessEqual(len(pages_in(work)), 2)
        self.assertLessEqual(len(work[1]), 1)
        self.assertLessEqual(len(schedule), 160)
        if alone:
            self.assertTrue(is_alone(work))
        self.assertIs(is_bad(plan, work, schedule), True)

    def check(self, plan, alone):
        """Check bad_run of a plan, and return which rules it breaks."""
        wrong = slow_broken(plan, alone)
        found = bad_run(plan, alone)
        if wrong:
            self.assertIsNotNone(found, (told(plan), alone))
            self.check_run(plan, alone, found)
        else:
            self.assertIsNone(found, (told(plan), alone))
        return wrong

    def check_all(self, plan, alone):
        """Check bad_run and bad_runs of a plan, and return which rules it breaks."""
        wrong = self.check(plan, alone)
        found = bad_runs(plan, alone)
        self.assertIs(type(found), dict)
        self.assertEqual(list(found), wrong)
        for rule, one in found.items():
            self.check_run(about(plan, rule), alone, one)
        return wrong


class IsBadTest(unittest.TestCase):
    def test_functions_stand_in_the_file(self):
        for function in (is_bad, bad_run, bad_runs):
            self.assertEqual(function.__module__, module.__name__)

    def test_what_the_document_shows(self):
        late = standard().with_order("copy", ("shut", "flush", "lower", "fill", "put"))
        work, schedule = bad_run(late, True)
        self.assertEqual([is_bad(late, work, schedule), bad_run(standard(), False)], [True, None])

    def test_unlike_or_lost(self):
        """A run is bad if either is so; the runs of the tests' own are just one of the two."""
        for rule, plan, work, schedule, fault in badruns.bad_runs():
            machine = run(plan, work, schedule)
            self.assertEqual((is_like(plan, work, schedule), is_lost(machine)), (fault == "lost", fault == "lost"))
            self.assertIs(is_bad(plan, work, schedule), True, rule)
            self.assertIs(is_bad(plan, work, []), False)
            by_standard = led_on(standard(), work, schedule)
            self.assertIs(is_bad(standard(), work, by_standard), False)

    def test_a_lost_machine_is_bad_at_the_end_alone(self):
        plan = standard().with_wake("put", "none")
        work = (((("take", 0),), (("put", 0, 1),)), (1,), ())
        schedule = led_on(plan, work, [(0,)] * 4)
        for k in range(len(schedule)):
            self.assertIs(is_bad(plan, work, schedule[:k]), False)
        self.assertIs(is_bad(plan, work, schedule), True)


class OrderTest(BadCase):
    def test_every_order_of_every_deed(self):
        """By each lock, for all works and those that are alone; with the step left out that may be."""
        rules = set()
        for deed in DEEDS:
            for order, (lock, alone) in itertools.product(every_order(deed), SETTINGS):
                plan = standard().with_lock(lock).with_order(deed, order)
                wrong = self.check_all(plan, alone)
                self.assertEqual({rule[0] for rule in wrong} - {deed}, set())
                rules |= {(rule, lock, alone) for rule in wrong}
        asked = {(rule, lock, alone) for lock, alone in SETTINGS for rule in slow_asked(lock, alone)}
        self.assertEqual(rules, asked)
        self.assertEqual(len({rule for rule, _, _ in rules}), 24)

    def breaking(self, rule):
        """Return the orders of the rule's deed that break it and as few others as can be, first."""
        deed, first, second = rule
        orders = [order for order in every_order(deed) if second in order and order.index(second) < order.index(first)]
        return sorted(orders, key=lambda order: len(slow_broken(standard().with_order(deed, order), False)))

    def test_each_rule_alone_and_among_others(self):
        chance = random.Random(5)
        for deed, first, second, guards in rule_rows():
            rule = (deed, first, second)
            for lock, alone in SETTINGS:
                is_asked = ("each" not in guards or lock == "each") and ("hands" not in guards or not alone)
                order = self.breaking(rule)[0]
                plan = standard().with_lock(lock).with_order(deed, order)
                wrong = self.check_all(plan, alone)
                self.assertIs(rule in wrong, is_asked)
                for _ in range(6):
                    other = plan_by_chance(chance).with_lock(lock).with_order(deed, chance.choice(self.breaking(rule)))
                    self.assertIs(rule in self.check_all(other, alone), is_asked)

    def test_among_what_is_right_and_far_from_standard(self):
        """The rule is the one that is broken, and all else is as a right plan has it by chance."""
        for seed in range(250):
            chance = random.Random(seed)
            alone = chance.random() < 0.5
            plan = right_plan(chance, alone)
            self.assertEqual(self.check_all(plan, alone), [])
            rules = slow_asked(plan.lock, alone)
            rule = chance.choice(rules)
            wrong = self.check_all(plan.with_order(rule[0], chance.choice(self.breaking(rule)[:4])), alone)
            self.assertIn(rule, wrong)

    def test_steps_left_out_of_all_other_deeds(self):
        short = {deed: tuple(step for step in DEEDS[deed] if step != spare) for deed, spare in SPARE.items()}
        for lock, alone in SETTINGS:
            plan = Plan(lock, short, {}, False, False)
            self.assertEqual(self.check_all(plan, alone), [])
            for rule in slow_asked(lock, alone):
                for order in self.breaking(rule)[:3]:
                    self.assertIn(rule, self.check_all(plan.with_order(rule[0], order), alone))


class WakingTest(BadCase):
    def plans(self):
        for lock, order, wakes in itertools.product(LOCKS, every_order("await"), every_wakes()):
            for left, passes in itertools.product((False, True), repeat=2):
                yield Plan(lock, {"await": order}, wakes, left, passes)

    def test_each_rule_alone(self):
        for lock, alone in SETTINGS:
            base = standard().with_lock(lock)
            for word, sort in itertools.product(WORDS, SORTS):
                for left in (False, True):
                    plan = base.with_wake(word, sort).with_left(left).with_passes(True)
                    expected = sort == "none" or sort == "one" and word in ("drain", "close") and not left
                    self.assertEqual(self.check_all(plan, alone), [("wakes", word)] if expected else [])
                    plan = plan.with_passes(False)
                    self.assertIs(("passes",) in self.check_all(plan, alone), sort != "all" and lock == "each")
            for order in (("join", "heed", "try"), ("heed", "join", "try"), ("heed", "try", "join")):
                plan = base.with_wake("put", "one").with_order("await", order)
                self.assertIn(("passes",), self.check_all(plan, alone))
                self.assertNotIn(("passes",), self.check_all(plan.with_passes(True), alone))

    def test_some_of_all_plans_about_waking(self):
        rules = {True: set(), False: set()}
        for k, plan in enumerate(self.plans()):
            if k % 7 == 3:
                alone = k // 7 % 4 in (0, 1)
                rules[alone] |= set(self.check_all(plan, alone))
        for found in rules.values():
            self.assertEqual(found, set(WAKING) | {("await", "join", "heed"), ("await", "join", "try")})


class ChanceTest(BadCase):
    def test_right_plans_have_no_bad_run(self):
        for seed in range(300):
            chance = random.Random(seed)
            alone = seed % 2 == 0
            plan = right_plan(chance, alone)
            self.assertEqual(self.check_all(plan, alone), [])
            self.assertEqual(bad_runs(plan, alone), {})

    def test_plans_by_chance(self):
        many = []
        for seed in range(400):
            chance = random.Random(seed)
            many.append(len(self.check_all(plan_by_chance(chance), seed % 2 == 0)))
        self.assertGreater(max(many), 12)

    def test_few_things_otherwise(self):
        for seed in range(400):
            chance = random.Random(seed)
            plan = standard().with_lock(chance.choice(LOCKS)).with_passes(chance.random() < 0.5)
            for _ in range(chance.choice([1, 2, 3])):
                deed = chance.choice(sorted(DEEDS))
                plan = plan.with_order(deed, chance.choice(every_order(deed)))
            plan = plan.with_wake(chance.choice(WORDS), chance.choice(SORTS)).with_left(chance.random() < 0.5)
            self.check_all(plan, chance.random() < 0.5)

    def test_what_is_told_is_new_and_always_the_same(self):
        plan = plan_by_chance(random.Random(8))
        for ask in (bad_run, bad_runs):
            before = copy.deepcopy(ask(plan, False))
            found = ask(plan, False)
            runs = [found] if ask is bad_run else list(found.values())
            for _, schedule in runs:
                schedule.clear()
            if ask is bad_runs:
                found.clear()
            bad_run(standard(), True)
            self.assertEqual(ask(plan, False), before)

    def test_time(self):
        begun = time.process_time()
        for seed in range(100):
            plan = plan_by_chance(random.Random(seed))
            bad_run(plan, False)
            bad_runs(plan, True)
        self.assertLess(time.process_time() - begun, 10)


if __name__ == "__main__":
    unittest.main()
