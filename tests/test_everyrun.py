"""All runs of a work [80]."""

import copy
import random
import time
import unittest

from belowall import everyrun as module
from belowall.bad import bad_run, is_bad
from belowall.everyrun import BadSearch, endings, is_safe, plain_endings, shortest_bad
from belowall.kinds import is_alone
from belowall.marks import are_filled_first
from belowall.plans import Plan, standard
from belowall.rules import broken
from belowall.runs import led_on, run, steps
from belowall.works import calls_of, hands_in
from tests.badruns import bad_runs
from tests.leading import IDLE, plan_by_chance
from tests.rightplans import right_plan
from tests.slowwalk import TooMany, slow_endings, slow_plain_endings, slow_shortest, told_by
from tests.smallworks import page_work, small, small_case, waiting_work
from tests.tables import every_order

TAKE, PUT, MAP, WRITE, READ = ("take", 0), ("put", 0, 1), ("map", 0), ("write", 0, 0, 1), ("read", 0, 0)

# The most that three hands with six calls and three outs can come to, as far as is known.
FAMILY = ((MAP, ("fork", "a", ((WRITE,),)), ("fork", "b", ((("write", 0, 0, 2),),)), READ),)
HARD_WORKS = [
    (FAMILY, (), (("root", 0), ("a", 0), ("b", 0))),
    (((("fork", "a", ((MAP, WRITE),)), ("fork", "b", ((MAP, WRITE),))),), (), (("a", 0), ("b", 0), ("a", 0))),
    (((MAP, ("fork", "a", ((WRITE,),)), WRITE), (READ, READ)), (), (("root", 0), ("a", 0), ("root", 0))),
    (((PUT, ("send", "root")), (TAKE, TAKE), (TAKE, PUT)), (1,), (("root", 0),) * 3),
    (((PUT, PUT), (TAKE, TAKE), (PUT, PUT)), (1,), ()),
    (((MAP, WRITE), (MAP, WRITE), (READ, WRITE)), (), (("root", 0),) * 3),
]


# Seeds by which small_case draws a work with a run that is lost, and one with four calls and a run that is bad.
LOST_SEEDS = [52, 70, 229, 268, 510, 525, 556, 563, 565, 607, 643, 670, 673, 694, 705, 779, 895, 1035]
BAD_SEEDS = [1, 80, 95, 162, 187, 268, 300, 503, 521, 525, 597, 604, 636, 681, 705, 716, 772, 776, 853, 927, 986, 1035, 1047,
             1141, 1180, 1201, 1223, 1275, 1295, 1366, 1425, 1430, 1464, 1537, 1635, 1665, 1813, 2187, 2209, 2328, 2391,
             2459, 2670, 3098, 3332, 3358, 3376, 3392, 3441, 3549, 3667, 3690, 3752, 3835, 3843, 3928]


# Works and orders of deeds where it matters what a frame or slot had, and who goes by it, ahead of its being given up.
FREED = [
    (((MAP, WRITE, ("map", 1), READ), (READ,)), (), (("root", 0),),
     {"copy": ("flush", "fill", "shut", "lower", "put"), "fetch": ("put", "load", "leave")}),
    (((MAP, MAP), (WRITE, MAP), (("drop", 0), READ)), (), (("root", 0),), {"map": ("put", "wipe")}),
    (((MAP, ("fork", "a", ((("write", 0, 0, 2),),)), ("map", 1), ("map", 1)), (("read", 1, 0), ("write", 0, 0, 2))), (), (),
     {"map": ("put", "wipe")}),
    (((MAP, ("fork", "a", ((("write", 1, 0, 1), READ),)), ("write", 1, 0, 1), WRITE, ("write", 0, 0, 3)),), (), (("a", 0),),
     {"out": ("shut", "lower", "save", "flush")}),
    (((MAP, READ), (("write", 0, 0, 2), READ)), (), (("root", 0),), {"out": ("save", "flush", "shut")}),
    (((MAP, READ, MAP, ("drop", 0)), (("write", 0, 0, 3), READ)), (), (("root", 0),),
     {"out": ("save", "lower", "shut", "flush")}),
    # Two writes ahead of a drop: what is left in the frame is read where it is mapped once more, and not yet wiped.
    (((MAP, ("write", 0, 0, 5), ("drop", 0), ("map", 1)), (("write", 0, 0, 7),), (("read", 1, 0),)), (), (),
     {"map": ("put", "wipe")}),
]


def is_small(work, most=6):
    """Tell whether all runs of a work may be asked for."""
    hands = hands_in(work)
    return len(hands) <= 3 and sum(len(calls_of(work, hand)) for hand in hands) <= most


def small_bad_runs():
    """Return the runs of the tests' own that are bad and whose works are small."""
    return [row for row in bad_runs() if is_small(row[2])]


class EndingsTest(unittest.TestCase):
    def test_functions_stand_in_the_file(self):
        for function in (endings, plain_endings, shortest_bad, is_safe):
            self.assertEqual(function.__module__, module.__name__)

    def test_one_hand(self):
        work = (((MAP, WRITE, READ),), (), ())
        told = (((0,), ("done", "done", 1)),)
        self.assertEqual(endings(standard(), work), [(told, False)])
        self.assertEqual(plain_endings(work), [told])
        self.assertEqual(endings(standard(), (IDLE, (), ())), [((((0,), ()),), False)])

    def test_two_hands_and_the_pager(self):
        work = (((MAP, WRITE), (READ,)), (), (("root", 0), ("root", 0)))
        rows = [((((0,), ("done", "done")), ((1,), (telling,))), False) for telling in (0, 1, "none")]
        self.assertEqual(endings(standard(), work), sorted(rows, key=repr))
        self.assertEqual(plain_endings(work), [told for told, _ in sorted(rows, key=repr)])

    def test_a_run_that_can_be_lost(self):
        plan = standard().with_wake("put", "none")
        work = (((TAKE,), (PUT,)), (1,), ())
        good, lost = (((0,), (1,)), ((1,), ("done",))), (((0,), ()), ((1,), ("done",)))
        self.assertEqual(endings(plan, work), sorted([(good, False), (lost, True)], key=repr))
        self.assertEqual(endings(standard(), work), [(good, False)])
        self.assertEqual(plain_endings(work), [good])
        self.assertEqual([is_safe(plan, work), is_safe(standard(), work)], [False, True])

    def test_a_hand_that_sleeps_for_good_reason(self):
        work = (((TAKE,), (TAKE,), (PUT,)), (1,), ())
        rows = endings(standard(), work)
        self.assertEqual(len(rows), 2)
        self.assertEqual({lost for _, lost in rows}, {False})
        self.assertEqual([told for told, _ in rows], plain_endings(work))

    def test_hands_that_never_come_to_be(self):
        work = (((("fork", "root", ((MAP,),)), TAKE, ("fork", "kid", ((MAP,),))),), (1,), ())
        told = (((0,), ("there",)),)
        self.assertEqual(endings(standard(), work), [(told, False)])
        self.assertEqual(plain_endings(work), [told])
        work = (((("fork", "kid", ((MAP,),)),), (("fork", "kid", ((READ,),)),)), (), ())
        rows = [told for told, _ in endings(standard(), work)]
        self.assertEqual(rows, plain_endings(work))
        self.assertEqual(sorted([hand for hand, _ in told] for told in rows), [
            [(0,), (0, 0, 0), (1,)], [(0,), (1,), (1, 0, 0)]])

    def test_tuples_are_told_by_a_drain(self):
        work = (((PUT, ("put", 0, 2)), (("drain", 0),)), (2,), ())
        self.assertEqual({told[1][1] for told, _ in endings(standard(), work)}, {((1,),), ((1, 2),)})
        self.assertEqual({told[1][1] for told in plain_endings(work)}, {((1,),), ((1, 2),)})

    def test_ascending_by_text(self):
        """10 stands ahead of 9 there, and a text ahead of each of them."""
        work = (((MAP, ("write", 0, 0, 9), ("write", 0, 0, 10)), (READ,)), (), ())
        tellings = [told[1][1][0] for told, _ in endings(standard(), work)]
        self.assertEqual(tellings, ["none", 0, 10, 9])
        self.assertEqual([told[1][1][0] for told in plain_endings(work)], ["none", 0, 10, 9])

    def test_by_chance(self):
        lost, many, walked = 0, 0, 0
        for seed in list(range(60)) + LOST_SEEDS:
            chance = random.Random(seed)
            work, plan = small_case(chance)
            given = copy.deepcopy((work, plan.orders()))
            try:
                rows = slow_endings(plan, work, 2500)
            except TooMany:
                continue
            walked += 1
            self.assertEqual(endings(plan, work), rows, seed)
            self.assertEqual((work, plan.orders()), given)
            lost += any(row[1] for row in rows)
            many += len(rows) > 2
        self.assertGreater(walked, 60)
        self.assertGreater(lost, 15)
        self.assertGreater(many, 10)

    def test_plans_by_chance(self):
        for seed in range(40):
            chance = random.Random(seed)
            work, plan = small(chance, chance.choice([page_work, waiting_work]), 5), plan_by_chance(chance)
            try:
                rows = slow_endings(plan, work, 2500)
            except TooMany:
                continue
            self.assertEqual(endings(plan, work), rows, seed)

    def test_runs_that_go_wrong(self):
        for rule, plan, work, schedule, _ in small_bad_runs():
            machine = run(plan, work, led_on(plan, work, schedule))
            self.assertIn(told_by(machine), [told for told, _ in endings(plan, work)], rule)

    def test_frames_and_slots_that_are_given_up(self):
        for hands, rooms, outs, orders in FREED:
            plan = Plan("each", orders, {}, False, True)
            work = (hands, rooms, outs)
            self.assertEqual(endings(plan, work), slow_endings(plan, work, 30000), work)

    def test_by_right_plans_all_ends_as_the_plain_machine_does(self):
        for seed in range(120):
            chance = random.Random(seed)
            work = small(chance, chance.choice([page_work, waiting_work]))
            plain = plain_endings(work)
            for told, lost in endings(right_plan(chance, is_alone(work)), work):
                self.assertIn(told, plain, seed)
                self.assertIs(lost, False)


class PlainEndingsTest(unittest.TestCase):
    def test_a_wait_for_two_children(self):
        """Whichever has ended may be told, so that this ends in two ways; the third wait tells "none"."""
        work = (((("fork", "b", IDLE), ("fork", "a", IDLE), ("wait",), ("wait",)),), (), ())
        rows = [told[0][1] for told in plain_endings(work)]
        self.assertEqual(rows, [("done", "done", "a", "b"), ("done", "done", "b", "a")])

    def test_a_call_that_is_broken_off(self):
        work = (((TAKE,), (("send", "root"), PUT)), (1,), ())
        self.assertEqual([(told[0][1], told[1][1]) for told in plain_endings(work)], [
            (("broken",), ("done", "done")), ((), ("done", "broken")), ((1,), ("done", "done"))])
        work = (((TAKE,), (("send", "root"),)), (1,), ())
        self.assertEqual([told[0][1] for told in plain_endings(work)], [("broken",)])

    def test_ends(self):
        """A child that cannot end is never told; one whose parent has ended is told to the first process."""
        work = (((("fork", "a", ((TAKE,),)), ("wait",)),), (1,), ())
        self.assertEqual(plain_endings(work), [(((0,), ("done",)), ((0, 0, 0), ()))])
        work = (((("fork", "a", ((("fork", "b", IDLE),),)), ("wait",), ("wait",)),), (), ())
        self.assertEqual([told[0][1] for told in plain_endings(work)], [("done", "a", "b"), ("done", "b", "a")])

    def test_by_chance(self):
        for seed in range(150):
            chance = random.Random(seed)
            work = small(chance, chance.choice([page_work, waiting_work]))
            self.assertEqual(plain_endings(work), slow_plain_endings(work), seed)


class ShortestBadTest(unittest.TestCase):
    def check(self, plan, work):
        """Check that a shortest bad run is one, as far as can be told by itself, and return it."""
        found = shortest_bad(plan, work)
        self.assertIs(is_safe(plan, work), found is None)
        if found is not None:
            self.assertIs(type(found), list)
            self.assertIs(is_bad(plan, work, found), True)
            self.assertEqual(len(steps(plan, work, found)), len(found))
            for k in range(len(found)):
                self.assertIs(is_bad(plan, work, found[:k]), False)
            self.assertNotEqual(broken(plan, is_alone(work)), [])
        return found

    def test_each_rule(self):
        """By the plans of the tests' own, each of which breaks one rule."""
        rules = {}
        for rule, plan, work, schedule, _ in small_bad_runs():
            whole = led_on(plan, work, schedule)
            found = self.check(plan, work)
            self.assertIsNotNone(found, rule)
            self.assertLessEqual(len(found), len(whole))
            rules[rule] = len(found)
        self.assertGreaterEqual(len(rules), 20)
        # Of the take four steps, of the put two.
        self.assertEqual(rules["wakes", "put"], 6)

    def test_the_works_of_bad_runs(self):
        checked = 0
        for rule, plan, _, _, _ in bad_runs():
            work, schedule = bad_run(plan, False)
            if is_small(work):
                found = self.check(plan, work)
                self.assertLessEqual(len(found), len(schedule))
                checked += 1
        self.assertGreater(checked, 22)

    def test_none_shorter_is_bad(self):
        looked = 0
        for rule, plan, work, _, _ in small_bad_runs():
            try:
                length = slow_shortest(plan, work, 500)
            except TooMany:
                continue
            looked += 1
            self.assertEqual(len(self.check(plan, work)), length, rule)
        self.assertGreater(looked, 8)

    def test_by_chance(self):
        bad, none = 0, 0
        for seed in list(range(2, 40)) + BAD_SEEDS:
            chance = random.Random(seed)
            work, plan = small_case(chance, 4)
            found = self.check(plan, work)
            try:
                length = slow_shortest(plan, work, 1000 if seed in BAD_SEEDS else 200)
            except TooMany:
                continue
            self.assertEqual(None if found is None else len(found), length, seed)
            bad, none = bad + (found is not None), none + (found is None)
        self.assertEqual(bad, len(BAD_SEEDS))
        self.assertGreater(none, 20)

    def test_none_by_right_plans(self):
        for seed in range(150):
            chance = random.Random(seed)
            work = small(chance, chance.choice([page_work, waiting_work]))
            plan = right_plan(chance, is_alone(work))
            self.assertIsNone(shortest_bad(plan, work), seed)
            self.assertIs(is_safe(plan, work), True)

    def test_a_rule_that_does_not_matter_to_a_work(self):
        work = (((MAP, WRITE),), (), ())
        for rule, plan, _, _, _ in bad_runs():
            self.assertIsNone(shortest_bad(plan, work), rule)

    def test_machines_that_names_of_frames_are_not_enough_for(self):
        """A frame that is freed too early is gone by though it is free."""
        plan = standard().with_order("fork", ("mark", "flush", "start", "raise"))
        work = (((MAP, ("fork", "a", ((("drop", 0),),)), READ),), (), ())
        search = BadSearch(plan, work, True)
        while not search.is_over():
            search.look_at_level()
        self.assertIs(search.is_lacking, True)
        self.assertIsNone(shortest_bad(plan, work))
        self.assertEqual(endings(plan, work), slow_endings(plan, work))

    def test_what_is_told_is_new(self):
        _, plan, work, _, _ = small_bad_runs()[0]
        for ask in (lambda: shortest_bad(plan, work), lambda: endings(plan, work), lambda: plain_endings(work)):
            found = ask()
            before = copy.deepcopy(found)
            found.clear()
            self.assertEqual(ask(), before)


class MarksTest(unittest.TestCase):
    def test_where_names_may_be_enough(self):
        """Nobody may look at what a frame had: so it is where it is filled ahead of being put, or where nobody can look."""
        alone, other = ((MAP,),), ((MAP,), (READ,))
        for deed, first, second in [("map", "wipe", "put"), ("copy", "fill", "put"), ("fetch", "load", "put")]:
            for order in every_order(deed):
                plan = standard().with_order(deed, order)
                self.assertIs(are_filled_first(plan, (other, (), ())), order.index(first) < order.index(second))
                self.assertIs(are_filled_first(plan, (alone, (), ())), True)
        for deed in ("drop", "out", "fork", "await"):
            for order in every_order(deed):
                self.assertIs(are_filled_first(standard().with_order(deed, order), (other, (), ())), True)

    def depth(self, thing):
        """Return how deep tuples stand in a thing; nothing in it may be but tuples and what never changes."""
        if not isinstance(thing, tuple):
            self.assertIsInstance(thing, (int, str, bool, type(None)))
            return 0
        return 1 + max([self.depth(part) for part in thing], default=0)

    def test_keys_are_flat_enough(self):
        deepest = 0
        for seed in range(60):
            work, plan = small_case(random.Random(seed))
            for by_names in (True, False):
                search = BadSearch(plan, work, by_names)
                while not search.is_over():
                    search.look_at_level()
                deepest = max([deepest] + [self.depth(key) for key in search.seen if key[0] is not None])
                shadows = search.shadows
                for keys in (shadows.shadow_numbers, shadows.spot_numbers, shadows.ways_known, shadows.spots_known):
                    deepest = max([deepest] + [self.depth(key) for key in keys])
        self.assertLessEqual(deepest, 8)


class TimeTest(unittest.TestCase):
    def check(self, ask, most):
        begun = time.process_time()
        ask()
        self.assertLess(time.process_time() - begun, most)

    def test_hard_works(self):
        for work in HARD_WORKS:
            for plan in (standard(), standard().with_left(True).with_passes(True).with_lock("all")):
                self.check(lambda: endings(plan, work), 5)
                self.check(lambda: shortest_bad(plan, work), 5)
                self.check(lambda: plain_endings(work), 1)

    def test_wrong_plans(self):
        work = HARD_WORKS[0]
        for rule in (("out", "save", "lower"), ("fork", "raise", "start"), ("wakes", "put"), ("copy", "shut", "put")):
            plan = [row[1] for row in bad_runs() if row[0] == rule][0]
            self.check(lambda: is_safe(plan, work), 8)
        plan = standard().with_order("copy", ("shut", "flush", "put", "fill", "lower"))
        self.check(lambda: endings(plan, HARD_WORKS[2]), 12)


if __name__ == "__main__":
    unittest.main()
