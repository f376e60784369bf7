"""Orders [33], with the guarantee [7]."""

import random
import unittest
from itertools import permutations, product

from belowall import orders as module
from belowall.orders import all_orders, apart, is_way, nearest, right_orders, right_plans, way
from belowall.plans import is_order, standard
from tests.anyvalues import any_values, truths
from tests.tables import (
    DEEDS, SETTINGS, SPARE, distances, every_order, every_wakes, exchanges, full_orders, slow_right,
    slow_waking_broken,
)


def slow_apart(one, other):
    places = {step: k for k, step in enumerate(other)}
    return sorted((first, second) for first in one for second in one
                  if one.index(first) < one.index(second) and places[first] > places[second])


def slow_right_plans(lock, alone, left):
    number = 0
    for order in slow_right(every_order("await"), "await", lock, alone):
        for wakes, passes in product(every_wakes(), (True, False)):
            if not slow_waking_broken(lock, order, wakes, left, passes):
                number += 1
    for deed in DEEDS:
        if deed != "await":
            number *= len(slow_right(every_order(deed), deed, lock, alone))
    return number


class OrdersTest(unittest.TestCase):
    def test_all_orders(self):
        for deed in DEEDS:
            self.assertEqual(all_orders(deed), full_orders(deed))
            all_orders(deed).clear()
            self.assertEqual(all_orders(deed), full_orders(deed))
            self.assertTrue(all(is_order(deed, order) for order in all_orders(deed)))
        self.assertEqual([len(all_orders(deed)) for deed in sorted(DEEDS)], [6, 2, 120, 6, 24, 6, 24, 2, 24, 2])

    def test_right_orders(self):
        for deed, (lock, alone) in product(DEEDS, SETTINGS):
            wanted = slow_right(full_orders(deed), deed, lock, alone)
            self.assertEqual(right_orders(deed, lock, alone), wanted, (deed, lock, alone))
            self.assertIn(tuple(DEEDS[deed]), wanted)
            right_orders(deed, lock, alone).clear()
            self.assertEqual(right_orders(deed, lock, alone), wanted)

    def test_right_orders_of_a_few(self):
        self.assertEqual(right_orders("await", "each", True), [("join", "heed", "try"), ("join", "try", "heed")])
        self.assertEqual(right_orders("send", "each", True), [("post", "rouse")])
        self.assertEqual(right_orders("send", "all", False), [("post", "rouse"), ("rouse", "post")])
        self.assertEqual(right_orders("map", "each", True), [("put", "wipe"), ("wipe", "put")])
        self.assertEqual(right_orders("map", "all", False), [("wipe", "put")])
        self.assertEqual(right_orders("out", "each", False), [("shut", "flush", "save", "lower")])

    def test_defined_in_their_file(self):
        for thing in (all_orders, right_orders, apart, nearest, way, is_way, right_plans):
            self.assertEqual(thing.__module__, module.__name__)


class ApartTest(unittest.TestCase):
    def test_orders_with_all_steps(self):
        for deed in DEEDS:
            for one in full_orders(deed):
                for other in full_orders(deed):
                    self.assertEqual(apart(one, other), slow_apart(one, other))

    def test_orders_without_the_step_that_may_be_left_out(self):
        for deed in SPARE:
            less = [order for order in every_order(deed) if SPARE[deed] not in order]
            for one, other in product(less, less):
                self.assertEqual(apart(one, other), slow_apart(one, other))

    def test_a_few(self):
        self.assertEqual(apart(("wipe", "put"), ("wipe", "put")), [])
        self.assertEqual(apart(("wipe", "put"), ("put", "wipe")), [("wipe", "put")])
        self.assertEqual(apart(("shut", "flush", "lower"), ("lower", "flush", "shut")),
                         [("flush", "lower"), ("shut", "flush"), ("shut", "lower")])


class NearestTest(unittest.TestCase):
    def test_against_a_search(self):
        for deed in DEEDS:
            everything = set(full_orders(deed))
            for order in full_orders(deed):
                far = distances(order, everything)
                for lock, alone in SETTINGS:
                    rights = slow_right(full_orders(deed), deed, lock, alone)
                    least = min(far[right] for right in rights)
                    wanted = (least, sorted(right for right in rights if far[right] == least))
                    self.assertEqual(nearest(deed, order, lock, alone), wanted, (deed, order, lock, alone))

    def test_kinds_of_what_is_told(self):
        told = nearest("send", ("rouse", "post"), "each", False)
        self.assertEqual(told, (1, [("post", "rouse")]))
        self.assertIsInstance(told, tuple)
        told[1].clear()
        self.assertEqual(nearest("send", ("rouse", "post"), "each", False), (1, [("post", "rouse")]))
        self.assertEqual(nearest("send", ("rouse", "post"), "all", False), (0, [("rouse", "post")]))
        self.assertEqual(nearest("copy", ("put", "shut", "lower", "flush", "fill"), "all", True),
                         (1, [("shut", "put", "lower", "flush", "fill")]))


class WayTest(unittest.TestCase):
    def check_way(self, deed, one, other, rights, number, setting):
        row = way(deed, one, other, *setting)
        self.assertIsInstance(row, list)
        self.assertEqual(len(row), number + 1)
        self.assertEqual([row[0], row[-1]], [one, other])
        for order in row:
            self.assertIn(order, rights)
        for order, behind in zip(row, row[1:]):
            self.assertIn(behind, exchanges(order))
        return row

    def test_ways_are_right_and_as_short_as_can_be(self):
        for deed, setting in product(DEEDS, SETTINGS):
            rights = slow_right(full_orders(deed), deed, *setting)
            for one in rights:
                far = distances(one, set(rights))
                self.assertEqual(sorted(far), rights)
                for other in rights:
                    self.assertEqual(far[other], len(slow_apart(one, other)))
                    self.check_way(deed, one, other, rights, far[other], setting)

    def test_each_way_is_one(self):
        for deed, setting in product(DEEDS, SETTINGS):
            rights = slow_right(full_orders(deed), deed, *setting)
            for one, other in product(rights[:8], rights[-8:]):
                row = way(deed, one, other, *setting)
                self.assertIs(is_way(deed, one, other, *setting, row), True)
                self.assertIs(is_way(deed, other, one, *setting, row[::-1]), True)
                self.assertIs(is_way(deed, one, other, *setting, tuple(row)), False)
                self.assertIs(is_way(deed, one, other, *setting, row + [other]), False)
                self.assertIs(is_way(deed, one, other, *setting, [list(order) for order in row]), False)
                if one != other:
                    self.assertIs(is_way(deed, other, one, *setting, row), False)
                    self.assertIs(is_way(deed, one, other, *setting, row[:-1]), False)
                    self.assertIs(is_way(deed, one, other, *setting, row[1:]), False)

    def test_to_itself(self):
        for deed, setting in product(DEEDS, SETTINGS):
            order = tuple(DEEDS[deed])
            self.assertEqual(way(deed, order, order, *setting), [order])
            self.assertIs(is_way(deed, order, order, *setting, [order]), True)
            self.assertIs(is_way(deed, order, order, *setting, []), False)
            self.assertIs(is_way(deed, order, order, *setting, [order, order]), False)
            self.assertIs(is_way(deed, order, order, *setting, [order, order, order]), False)

    def test_what_is_handed_back_is_new(self):
        order = ("post", "rouse")
        way("send", order, order, "each", True).clear()
        self.assertEqual(way("send", order, order, "each", True), [order])

    def test_longer_ways(self):
        one, other = ("post", "rouse"), ("rouse", "post")
        for many in (1, 2, 7, 700):
            self.assertIs(is_way("send", one, other, "all", True, [one, other] * many), True)
            self.assertIs(is_way("send", one, one, "all", True, [one, other] * many + [one]), True)
            self.assertIs(is_way("send", one, one, "all", True, [one, other] * many), False)
            self.assertIs(is_way("send", one, one, "each", True, [one, other] * many + [one]), False)

    def test_walks_by_chance(self):
        chance = random.Random(33)
        for deed, setting in product(("copy", "fork", "exit", "out", "fetch", "await"), SETTINGS):
            rights = slow_right(full_orders(deed), deed, *setting)
            for _ in range(20):
                row = [chance.choice(rights)]
                for _ in range(chance.randrange(12)):
                    row.append(chance.choice(exchanges(row[-1])))
                wanted = all(order in rights for order in row)
                self.assertIs(is_way(deed, row[0], row[-1], *setting, row), wanted)
                if len(row) > 2:
                    less = row[:1] + row[2:]
                    wanted = all(order in rights for order in less) and less[1] in exchanges(less[0])
                    self.assertIs(is_way(deed, row[0], row[-1], *setting, less), wanted)

    def test_ways_over_what_is_not_right(self):
        one, other = ("load", "put", "leave"), ("load", "leave", "put")
        longer = [one, ("put", "load", "leave"), one, other]
        self.assertIs(is_way("fetch", one, other, "each", False, [one, other]), True)
        self.assertIs(is_way("fetch", one, other, "each", False, longer), False)
        self.assertIs(is_way("fetch", one, other, "all", True, longer), True)
        self.assertIs(is_way("fetch", one, other, "each", True, longer), True)

    def test_two_exchanges_at_once(self):
        one, other = ("mark", "flush", "raise", "start"), ("flush", "mark", "start", "raise")
        self.assertIs(is_way("fork", one, other, "all", True, [one, other]), False)
        between = ("flush", "mark", "raise", "start")
        self.assertIs(is_way("fork", one, other, "all", True, [one, between, other]), True)
        far = ("start", "flush", "raise", "mark")
        self.assertIs(is_way("fork", one, far, "all", True, [one, far]), False)

    def test_orders_without_a_step_are_not_on_the_way(self):
        order = ("shut", "flush", "lower")
        for less in (("shut", "flush"), ("flush", "shut")):
            self.assertIs(is_way("drop", order, order, "all", True, [order, less, order]), False)

    def test_any_values(self):
        one, other = ("load", "put", "leave"), ("load", "leave", "put")
        for thing in any_values() + truths() + [standard(), one, [[one]], [None], [one, None, other], [standard()]]:
            self.assertIs(is_way("fetch", one, other, "all", True, thing), False)
            self.assertIs(is_way("fetch", one, other, "all", True, [one, thing, one, other]), False)
            self.assertIs(is_way("fetch", one, other, "all", True, [thing, one, other]), False)
            self.assertIs(is_way("fetch", one, other, "all", True, [one, other, thing]), False)
            self.assertIs(is_way("fetch", one, other, "all", True, [(thing, "put", "leave"), one, other]), False)


class RightPlansTest(unittest.TestCase):
    def test_against_a_slow_count(self):
        for (lock, alone), left in product(SETTINGS, (True, False)):
            wanted = slow_right_plans(lock, alone, left)
            self.assertEqual(right_plans(lock, alone, left), wanted, (lock, alone, left))

    def test_numbers_that_stay(self):
        found = [right_plans(lock, alone, left) for lock, alone in SETTINGS for left in (True, False)]
        self.assertEqual(found, [8225280, 2419200, 33048, 9720, 15606743040, 4140564480, 81285120, 21565440])

    def test_orders_without_a_step_are_counted(self):
        less = list(permutations(("load", "put")))
        self.assertEqual(len(slow_right(less, "fetch", "each", True)), 2)
        self.assertEqual(len(slow_right(every_order("fetch"), "fetch", "each", True)), 5)


if __name__ == "__main__":
    unittest.main()
