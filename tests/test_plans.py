"""Plans [30]."""

import unittest
from itertools import permutations, product

from belowall import plans
from belowall.errors import NoDeed, NoWord, Wrong
from belowall.plain import Plain
from belowall.plans import Plan, deeds, is_order, standard, steps_of
from tests.anyvalues import any_values, truths
from tests.tables import DEEDS, SORTS, SPARE, WORDS, every_order

ALL_WAKES = {word: "all" for word in WORDS}
STANDARD_ORDERS = {deed: tuple(steps) for deed, steps in DEEDS.items()}


def anything():
    """Return any values, a Plan and a Plain too."""
    return any_values() + truths() + [standard(), Plain((((),), (), ())), 0, 1]


def told(plan):
    """Return all that a Plan tells."""
    return (plan.lock, plan.orders(), plan.wakes(), plan.left, plan.passes)


class StepsTest(unittest.TestCase):
    def test_deeds(self):
        self.assertEqual(deeds(), ["await", "close", "copy", "drop", "exit", "fetch", "fork", "map", "out", "send"])
        deeds().clear()
        self.assertEqual(len(deeds()), 10)

    def test_steps(self):
        for deed, steps in DEEDS.items():
            self.assertEqual(steps_of(deed), steps)
            steps_of(deed).reverse()
            self.assertEqual(steps_of(deed), steps)

    def test_no_deed(self):
        for thing in anything() + ["Fork", "fork ", "open", "wait", ("fork",), ["fork"], {"fork": 0}]:
            with self.assertRaises(NoDeed) as caught:
                steps_of(thing)
            self.assertIs(caught.exception.deed, thing)

    def test_orders_of_each_deed(self):
        for deed, steps in DEEDS.items():
            right = every_order(deed)
            for size in range(len(steps) + 1):
                for order in permutations(steps, size):
                    self.assertIs(is_order(deed, order), order in right, (deed, order))

    def test_the_step_that_may_be_left_out(self):
        for deed, steps in DEEDS.items():
            for step in steps:
                less = tuple(part for part in steps if part != step)
                self.assertIs(is_order(deed, less), SPARE.get(deed) == step, (deed, step))

    def test_what_just_misses_an_order(self):
        for deed, steps in DEEDS.items():
            good = tuple(steps)
            self.assertIs(is_order(deed, good), True)
            near = [list(good), good + good[:1], good[:1] + good, good * 2, (good,), (), " ".join(good), good + (None,)]
            near += [good[:-1] + ("other",), good[:-1] + (None,), good[:-1] + ([good[-1]],), good[:-1] + ("",)]
            near += [good[:-1] + good[:1], {step: 0 for step in good}, (*good, True), (*good[:-1], good[-1].upper())]
            for thing in near:
                self.assertIs(is_order(deed, thing), False, (deed, thing))

    def test_twice_a_step_in_the_place_of_the_one_left_out(self):
        for deed, spare in SPARE.items():
            for step in DEEDS[deed]:
                order = tuple(step if part == spare else part for part in DEEDS[deed])
                self.assertIs(is_order(deed, order), step == spare)

    def test_any_values_are_no_orders(self):
        for deed in DEEDS:
            for thing in anything():
                self.assertIs(is_order(deed, thing), False)

    def test_orders_of_other_deeds(self):
        for deed, other in product(DEEDS, DEEDS):
            self.assertIs(is_order(deed, tuple(DEEDS[other])), deed == other)


class PlanTest(unittest.TestCase):
    def test_standard(self):
        plan = standard()
        self.assertEqual(told(plan), ("each", STANDARD_ORDERS, ALL_WAKES, False, False))
        self.assertEqual(plan, Plan("each", {}, {}, False, False))

    def test_what_it_was_made_of(self):
        for lock in ("each", "all"):
            for left, passes in product((True, False), repeat=2):
                plan = Plan(lock, {}, {}, left, passes)
                self.assertEqual(plan.lock, lock)
                self.assertIs(plan.left, left)
                self.assertIs(plan.passes, passes)

    def test_each_order(self):
        for deed in DEEDS:
            for order in every_order(deed):
                plan = Plan("each", {deed: order}, {}, False, False)
                self.assertEqual(plan.order(deed), order)
                self.assertEqual(plan.orders(), {**STANDARD_ORDERS, deed: order})
                for other in DEEDS:
                    self.assertEqual(plan.order(other), order if other == deed else STANDARD_ORDERS[other])

    def test_each_wake(self):
        for many in range(5):
            for words in permutations(WORDS, many):
                for sorts in product(SORTS, repeat=many):
                    wakes = dict(zip(words, sorts))
                    plan = Plan("all", {}, wakes, True, False)
                    self.assertEqual(plan.wakes(), {**ALL_WAKES, **wakes})
                    for word in WORDS:
                        self.assertEqual(plan.wake(word), wakes.get(word, "all"))

    def test_dicts_handed_in_stay_and_are_not_kept(self):
        orders = {"send": ("rouse", "post"), "map": ("put", "wipe")}
        wakes = {"take": "one", "put": "none"}
        plan = Plan("each", orders, wakes, False, False)
        before = told(plan)
        self.assertEqual(list(orders.items()), [("send", ("rouse", "post")), ("map", ("put", "wipe"))])
        self.assertEqual(list(wakes.items()), [("take", "one"), ("put", "none")])
        orders["send"] = ("post", "rouse")
        orders.pop("map")
        wakes["take"] = "all"
        wakes["drain"] = "none"
        self.assertEqual(told(plan), before)

    def test_dicts_told_are_new_and_ascend(self):
        plan = Plan("each", {"send": ("rouse", "post"), "await": ("try", "heed", "join")}, {"take": "one"}, False, True)
        for plan in (plan, plan.with_wake("put", "none").with_order("close", ("wake", "seal")), standard()):
            before = told(plan)
            self.assertEqual(list(plan.orders()), sorted(DEEDS))
            self.assertEqual(list(plan.wakes()), WORDS)
            plan.orders().clear()
            plan.orders()["send"] = None
            plan.wakes().clear()
            self.assertEqual(told(plan), before)

    def test_properties_cannot_be_set(self):
        plan = standard()
        for word in ("lock", "left", "passes"):
            self.assertIsInstance(vars(Plan)[word], property)
            with self.assertRaises(AttributeError):
                setattr(plan, word, True)
        self.assertEqual(plan, standard())

    def test_methods_stand_in_the_class(self):
        for word in ("order", "wake", "orders", "wakes", "with_order", "with_wake", "with_lock", "with_left",
                     "with_passes", "__eq__", "__init__"):
            self.assertIn(word, vars(Plan))
        for thing in (Plan, deeds, steps_of, is_order, standard):
            self.assertEqual(thing.__module__, plans.__name__)

    def wrong(self, place, *handed):
        with self.assertRaises(Wrong) as caught:
            Plan(*handed)
        self.assertIs(type(caught.exception.place), int)
        self.assertEqual(caught.exception.place, place)

    def test_wrong_at_each_place(self):
        for thing in anything():
            self.wrong(0, thing, {}, {}, False, False)
            if thing != {}:
                self.wrong(1, "each", thing, {}, False, False)
                self.wrong(2, "each", {}, thing, False, False)
            if thing is not True and thing is not False:
                self.wrong(3, "each", {}, {}, thing, False)
                self.wrong(4, "each", {}, {}, False, thing)

    def test_wrong_at_the_first_place(self):
        good = ["each", {}, {}, False, False]
        bad = [None, [], (), 0, 1]
        for picks in product((False, True), repeat=5):
            handed = [bad[k] if pick else good[k] for k, pick in enumerate(picks)]
            if any(picks):
                self.wrong(picks.index(True), *handed)
            else:
                self.assertEqual(Plan(*handed), standard())

    def test_wrong_locks(self):
        for lock in ("Each", "ALL", "one", "none", "", "each ", ("each",), ["all"], None, True):
            self.wrong(0, lock, {}, {}, False, False)

    def test_wrong_orders(self):
        for orders in [
            {"open": ("put",)}, {"fork": ("mark", "flush", "raise")}, {"fork": ["mark", "flush", "raise", "start"]},
            {"map": ("put", "put")}, {"map": ("wipe", "put", "put")}, {"map": None}, {None: ("wipe", "put")},
            {"send": ("post", "rouse"), "map": ("wipe",)}, {0: ()}, {True: ()}, {("map",): ("wipe", "put")},
            {"map": ("post", "rouse")}, {"Map": ("wipe", "put")}, [("map", ("wipe", "put"))], "map", {"map": ()},
            {"drop": ("shut", "lower")}, {"fetch": ("load", "put", "leave", "leave")}, {"fetch": ("load", "leave")},
        ]:
            self.wrong(1, "each", orders, {}, False, False)
            self.wrong(1, "all", orders, None, None, None)

    def test_wrong_wakes(self):
        for wakes in [
            {"put": "some"}, {"put": None}, {"put": True}, {"put": ("one",)}, {"put": ["one"]}, {"wait": "one"},
            {"send": "all"}, {None: "one"}, {0: "one"}, {("put",): "one"}, {"put": "one", "wait": "one"}, {"Put": "one"},
            {"put": "One"}, {"put": ""}, {"": "one"}, [("put", "one")], "put", ("put", "one"), {"one": "put"},
        ]:
            self.wrong(2, "each", {}, wakes, False, False)
            self.wrong(2, "each", {}, wakes, 0, 1)

    def test_one_and_nought_are_no_truths(self):
        for thing in (0, 1, None, "", "yes", [], ()):
            self.wrong(3, "each", {}, {}, thing, True)
            self.wrong(4, "each", {}, {}, True, thing)

    def test_no_deed_and_no_word(self):
        plan = standard()
        for thing in anything() + ["Fork", "open", ["fork"], ("map",), "wait"]:
            with self.assertRaises(NoDeed) as caught:
                plan.order(thing)
            self.assertIs(caught.exception.deed, thing)
        for thing in anything() + ["Put", "send", "wait", ["put"], ("take",), "fork"]:
            with self.assertRaises(NoWord) as caught:
                plan.wake(thing)
            self.assertIs(caught.exception.word, thing)
        self.assertEqual(plan, standard())


class WithTest(unittest.TestCase):
    def setUp(self):
        self.plans = [
            standard(),
            Plan("all", {"await": ("heed", "try", "join"), "out": ("save", "flush", "shut")},
                 {"put": "one", "take": "none", "drain": "one", "close": "none"}, True, True),
        ]

    def check(self, plan, made, **wanted):
        before = dict(zip(("lock", "orders", "wakes", "left", "passes"), told(plan)))
        self.assertIsInstance(made, Plan)
        self.assertIsNot(made, plan)
        self.assertEqual(told(made), tuple({**before, **wanted}.values()))

    def test_with_order(self):
        for plan in self.plans:
            for deed in DEEDS:
                for order in every_order(deed):
                    before = told(plan)
                    self.check(plan, plan.with_order(deed, order), orders={**plan.orders(), deed: order})
                    self.assertEqual(told(plan), before)

    def test_with_wake(self):
        for plan in self.plans:
            for word, sort in product(WORDS, SORTS):
                before = told(plan)
                self.check(plan, plan.with_wake(word, sort), wakes={**plan.wakes(), word: sort})
                self.assertEqual(told(plan), before)

    def test_with_the_others(self):
        for plan in self.plans:
            before = told(plan)
            for lock in ("each", "all"):
                self.check(plan, plan.with_lock(lock), lock=lock)
            for truth in (True, False):
                self.check(plan, plan.with_left(truth), left=truth)
                self.check(plan, plan.with_passes(truth), passes=truth)
            self.assertEqual(told(plan), before)

    def test_no_deed_ahead_of_wrong(self):
        for plan in self.plans:
            before = told(plan)
            for thing in anything() + ["open", "Map", ("map",), ["map"]]:
                for order in (("wipe", "put"), None, thing):
                    with self.assertRaises(NoDeed) as caught:
                        plan.with_order(thing, order)
                    self.assertIs(caught.exception.deed, thing)
                for sort in ("one", None, thing):
                    with self.assertRaises(NoWord) as caught:
                        plan.with_wake(thing, sort)
                    self.assertIs(caught.exception.word, thing)
            self.assertEqual(told(plan), before)

    def test_wrong_order_and_wrong_sort(self):
        for plan in self.plans:
            before = told(plan)
            for thing in anything() + [("wipe",), ("put", "put"), ["wipe", "put"], ("post", "rouse"), "some", "One"]:
                for deed in DEEDS:
                    if deed == "send" and thing == ("post", "rouse"):
                        continue
                    with self.assertRaises(Wrong) as caught:
                        plan.with_order(deed, thing)
                    self.assertEqual(caught.exception.place, 1)
                for word in WORDS:
                    with self.assertRaises(Wrong) as caught:
                        plan.with_wake(word, thing)
                    self.assertEqual(caught.exception.place, 1)
            self.assertEqual(told(plan), before)

    def test_wrong_alone(self):
        for plan in self.plans:
            before = told(plan)
            for thing in anything():
                calls = [plan.with_lock]
                if thing is not True and thing is not False:
                    calls += [plan.with_left, plan.with_passes]
                for call in calls:
                    with self.assertRaises(Wrong) as caught:
                        call(thing)
                    self.assertIs(type(caught.exception.place), int)
                    self.assertEqual(caught.exception.place, 0)
            self.assertEqual(told(plan), before)


class EqualityTest(unittest.TestCase):
    def test_equal_by_all_that_is_told(self):
        parts = {"copy": ("shut", "flush", "fill", "put")}
        many = [
            standard(), standard().with_lock("all"), standard().with_left(True), standard().with_passes(True),
            Plan("each", parts, {}, False, False), Plan("each", {"map": ("put", "wipe")}, {}, False, False),
        ]
        many += [standard().with_wake(word, sort) for word in WORDS for sort in ("none", "one")]
        many += [standard().with_order(deed, every_order(deed)[-1]) for deed in DEEDS if deed not in ("map", "copy")]
        for k, one in enumerate(many):
            for n, other in enumerate(many):
                self.assertIs(one == other, k == n, (k, n))
                self.assertIs(one != other, k != n, (k, n))

    def test_whatever_way_it_was_made(self):
        plan = Plan("each", {"map": ("wipe", "put")}, {"put": "all"}, False, False)
        self.assertEqual(plan, standard())
        made = Plan("all", {"map": ("put", "wipe"), "send": ("rouse", "post")}, {"take": "one"}, True, False)
        other = standard().with_left(True).with_wake("take", "one").with_order("send", ("rouse", "post"))
        self.assertEqual(made, other.with_order("map", ("put", "wipe")).with_lock("all"))
        self.assertEqual(standard().with_left(True).with_left(False), standard())

    def test_equal_to_nothing_else(self):
        plan = standard()
        for thing in any_values() + truths() + [told(plan), "each", Plain((((),), (), ())), Plan]:
            self.assertIs(plan == thing, False)
            self.assertIs(thing == plan, False)
            self.assertIs(plan != thing, True)


if __name__ == "__main__":
    unittest.main()
