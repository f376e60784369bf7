"""Rules [31], [32]."""

import random
import unittest
from itertools import product

from belowall import rules as module
from belowall.plans import Plan, standard
from belowall.rules import asked, broken, holds, is_right, rules
from tests.tables import (
    DEEDS, SETTINGS, WAKING, every_order, every_wakes, full_orders, rule_rows, slow_asked, slow_broken,
    slow_holds_order, slow_waking_broken,
)


class TableTest(unittest.TestCase):
    def test_table(self):
        self.assertEqual(rules(), rule_rows())
        self.assertEqual(len(rules()), 24)
        self.assertEqual(rules(), sorted(rules()))
        rules().clear()
        self.assertEqual(len(rules()), 24)

    def test_asked(self):
        for lock, alone in SETTINGS:
            self.assertEqual(asked(lock, alone), slow_asked(lock, alone), (lock, alone))
            asked(lock, alone).clear()
            self.assertEqual(asked(lock, alone), sorted(slow_asked(lock, alone)))

    def test_how_many_are_asked(self):
        self.assertEqual([len(asked(lock, alone)) for lock, alone in SETTINGS], [14, 24, 3, 11])

    def test_asked_of_one_lock_and_one_hand_each(self):
        self.assertEqual(asked("all", True), [("copy", "shut", "put"), ("out", "flush", "save"), ("out", "shut", "flush")])

    def test_both_guards_are_needed(self):
        for rule in (("copy", "flush", "lower"), ("drop", "flush", "lower")):
            self.assertEqual([rule in asked(*setting) for setting in SETTINGS], [False, True, False, False])

    def test_defined_in_their_file(self):
        for thing in (rules, asked, holds, broken, is_right):
            self.assertEqual(thing.__module__, module.__name__)


class HoldsTest(unittest.TestCase):
    def test_rules_of_order(self):
        for deed, first, second, _ in rule_rows():
            for order in every_order(deed):
                for lock in ("each", "all"):
                    plan = Plan(lock, {deed: order}, {}, False, False)
                    wanted = slow_holds_order(order, first, second)
                    self.assertIs(holds(plan, (deed, first, second)), wanted, (order, first, second))

    def test_a_step_left_out_holds(self):
        plan = standard().with_order("copy", ("put", "fill", "flush", "shut"))
        plan = plan.with_order("drop", ("flush", "shut")).with_order("out", ("save", "flush", "shut"))
        plan = plan.with_order("fetch", ("put", "load"))
        for rule in [("copy", "fill", "lower"), ("copy", "flush", "lower"), ("drop", "flush", "lower"),
                     ("out", "save", "lower"), ("fetch", "load", "leave")]:
            self.assertIs(holds(plan, rule), True)
        for rule in [("copy", "shut", "put"), ("copy", "fill", "put"), ("drop", "shut", "flush"),
                     ("out", "flush", "save"), ("fetch", "load", "put")]:
            self.assertIs(holds(plan, rule), False)

    def test_standard_holds_all(self):
        for deed, first, second, _ in rule_rows():
            self.assertIs(holds(standard(), (deed, first, second)), True)
        for rule in WAKING:
            self.assertIs(holds(standard(), rule), True)

    def test_rules_of_waking(self):
        choices = product(("each", "all"), full_orders("await"), every_wakes(), (True, False), (True, False))
        for lock, order, wakes, left, passes in choices:
            plan = Plan(lock, {"await": order}, wakes, left, passes)
            wanted = slow_waking_broken(lock, order, wakes, left, passes)
            for rule in WAKING:
                self.assertIs(holds(plan, rule), rule not in wanted, (lock, order, wakes, left, passes, rule))

    def test_wakes_of_each_word(self):
        for word, sort, left in product(("put", "take", "drain", "close"), ("none", "one", "all"), (True, False)):
            plan = standard().with_wake(word, sort).with_left(left)
            wanted = sort == "all" or sort == "one" and (left or word in ("put", "take"))
            self.assertIs(holds(plan, ("wakes", word)), wanted, (word, sort, left))
            for other in ("put", "take", "drain", "close"):
                self.assertIs(holds(plan, ("wakes", other)), wanted or other != word)

    def test_passes(self):
        one = standard().with_wake("take", "one")
        self.assertIs(holds(one, ("passes",)), False)
        self.assertIs(holds(one.with_left(True), ("passes",)), False)
        self.assertIs(holds(one.with_passes(True), ("passes",)), True)
        self.assertIs(holds(one.with_wake("take", "all"), ("passes",)), True)
        self.assertIs(holds(one.with_lock("all"), ("passes",)), True)
        heed = one.with_order("await", ("join", "heed", "try"))
        self.assertIs(holds(heed.with_lock("all"), ("passes",)), False)
        self.assertIs(holds(heed.with_lock("all").with_passes(True), ("passes",)), True)
        self.assertIs(holds(heed.with_lock("all").with_wake("take", "all"), ("passes",)), True)


class BrokenTest(unittest.TestCase):
    def test_examples_of_the_document(self):
        late = standard().with_order("copy", ("shut", "flush", "lower", "fill", "put"))
        self.assertEqual([is_right(standard(), False), broken(late, False), broken(late.with_lock("all"), False)],
                         [True, [("copy", "fill", "lower")], []])

    def test_standard_is_right(self):
        for lock, alone in SETTINGS:
            self.assertEqual(broken(standard().with_lock(lock), alone), [])
            self.assertIs(is_right(standard().with_lock(lock), alone), True)

    def test_each_order_of_each_deed(self):
        for deed in DEEDS:
            for order in every_order(deed):
                for lock, alone in SETTINGS:
                    plan = Plan(lock, {deed: order}, {}, False, False)
                    self.assertEqual(broken(plan, alone), slow_broken(plan, alone))
                    self.assertIs(is_right(plan, alone), slow_broken(plan, alone) == [])

    def test_many_things_otherwise(self):
        chance = random.Random(32)
        wakes = every_wakes()
        for _ in range(1500):
            orders = {deed: chance.choice(every_order(deed)) for deed in DEEDS if chance.random() < 0.4}
            plan = Plan(chance.choice(["each", "all"]), orders, chance.choice(wakes),
                        chance.random() < 0.5, chance.random() < 0.5)
            for alone in (True, False):
                found = broken(plan, alone)
                self.assertEqual(found, slow_broken(plan, alone))
                self.assertEqual(found, sorted(found))
                self.assertIs(is_right(plan, alone), not found)

    def test_both_sorts_in_one_list(self):
        plan = standard().with_order("send", ("rouse", "post")).with_order("map", ("put", "wipe"))
        plan = plan.with_wake("put", "none").with_wake("drain", "one").with_order("out", ("lower", "shut", "save", "flush"))
        wanted = [("out", "flush", "save"), ("out", "save", "lower"), ("passes",), ("send", "post", "rouse"),
                  ("wakes", "drain"), ("wakes", "put")]
        self.assertEqual(broken(plan, True), wanted)
        self.assertEqual(broken(plan, False), [("map", "wipe", "put")] + wanted)
        self.assertEqual(broken(plan.with_lock("all"), True), [("out", "flush", "save"), ("wakes", "drain"), ("wakes", "put")])
        broken(plan, True).clear()
        self.assertEqual(broken(plan, True), wanted)

    def test_rules_of_waking_are_asked_for_all_works(self):
        plan = standard().with_wake("take", "none").with_lock("all").with_order("await", ("heed", "join", "try"))
        for alone in (True, False):
            self.assertEqual(broken(plan, alone), [("passes",), ("wakes", "take")])


if __name__ == "__main__":
    unittest.main()
