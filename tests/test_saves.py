"""Saves [91], [92], and that whatever a crash leaves a save stands whole, exactly by sure orders [9]."""

import copy
import itertools
import random
import time
import unittest

from belowall import saves as module
from belowall.saves import (
    bad_outcome, is_save_order, is_sure_order, outcomes, restored, save_tape, tells_at,
)
from tests.anyvalues import any_values, truths
from tests.test_tapes import SINK, is_late, slow_crashes, slow_left, w

SAFE = ("data", "sink", "mark", "sink", "tell")


def all_orders(most):
    """Return all save orders with at most so many sinks."""
    found = set()
    for many in range(most + 1):
        found |= set(itertools.permutations(("data", "mark", "tell") + ("sink",) * many))
    return sorted(found)


def slow_outcomes(order, rows):
    """Return all outcomes, by all crashes of all beginnings of the tape."""
    tape, tells, found = save_tape(order, rows), tells_at(order, rows), set()
    for many in range(len(tape) + 1):
        beginning = tape[:many]
        for crash in slow_crashes(beginning):
            if is_late(beginning, crash):
                row = restored(slow_left(beginning, crash), len(rows[0]))
                found.add((len([at for at in tells if at <= many]), () if row is None else tuple(row)))
    return sorted(found)


def is_wrong(rows, told, row):
    """Tell whether an outcome is neither the last save that was told nor a later one."""
    last = () if told == 0 else tuple(rows[told - 1])
    return row != last and list(row) not in [list(other) for other in rows[told:]]


def slow_is_sure(order):
    """Tell whether the words stand so in the order that a sink is where it has to be."""
    text = " ".join(order)
    at = {word: text.find(word) for word in ("data", "mark", "tell")}
    sinks = [k for k in range(len(text)) if text[k:].startswith("sink")]
    return any(at["data"] < k < at["mark"] for k in sinks) and any(at["mark"] < k < at["tell"] for k in sinks)


class OrderTest(unittest.TestCase):
    def test_functions_stand_in_the_file(self):
        for function in (is_save_order, is_sure_order, save_tape, tells_at, outcomes, restored, bad_outcome):
            self.assertEqual(function.__module__, module.__name__)

    def test_all_save_orders(self):
        found = all_orders(4)
        self.assertEqual(len(found), sum(6 * len(list(itertools.combinations(range(k + 3), k))) for k in range(5)))
        for order in found:
            self.assertIs(is_save_order(order), True)

    def test_no_save_orders(self):
        for thing in any_values() + truths() + [
            (), ("data",), ("data", "mark"), ("data", "mark", "tell", "tell"), ("data", "mark", "sink"),
            ("data", "mark", "tell") + ("sink",) * 5, ["data", "mark", "tell"], "data mark tell",
            ("data", "mark", "tell", "seal"), ("data", "mark", "tell", None), ("data", "mark", "tell", True),
            ("Data", "mark", "tell"), (("data",), "mark", "tell"), ("data", "mark", "tell", ["sink"]),
            {"data": 0, "mark": 0, "tell": 0}, ("data", "data", "mark", "tell"), ("sink",) * 4, ("data", "mark", ""),
        ]:
            self.assertIs(is_save_order(thing), False, thing)

    def test_sure(self):
        for order in all_orders(4):
            self.assertIs(is_sure_order(order), slow_is_sure(order), order)
        self.assertEqual([order for order in all_orders(2) if is_sure_order(order)], [SAFE])


class TapeTest(unittest.TestCase):
    def test_four_sinks(self):
        order = ("sink", "data", "sink", "mark", "sink", "tell", "sink")
        rows = [[5, 6], [7, 8], [9, 0]]
        tape = []
        for k, first in ((0, 1), (1, 3), (2, 1)):
            tape += [SINK, w(first, rows[k][0]), w(first + 1, rows[k][1]), SINK, w(0, k + 1), SINK, SINK]
        self.assertEqual(save_tape(order, rows), tape)
        self.assertEqual(tells_at(order, rows), [6, 13, 20])
        self.assertEqual(rows, [[5, 6], [7, 8], [9, 0]])

    def test_no_sink(self):
        order = ("tell", "mark", "data")
        self.assertEqual(save_tape(order, [[5], [6]]), [w(0, 1), w(1, 5), w(0, 2), w(2, 6)])
        self.assertEqual(tells_at(order, [[5], [6]]), [0, 2])
        self.assertEqual(tells_at(("data", "mark", "tell"), [[5], [6]]), [2, 4])
        self.assertEqual(save_tape(("data", "mark", "tell"), [[5, 6, 7]]), [w(1, 5), w(2, 6), w(3, 7), w(0, 1)])

    def test_restored(self):
        self.assertIsNone(restored({}, 2))
        self.assertIsNone(restored({1: 5, 2: 6, 3: 7}, 2))
        self.assertEqual(restored({0: 1}, 2), [0, 0])
        self.assertEqual(restored({0: 1, 1: 5, 2: 6, 3: 7, 4: 8}, 2), [5, 6])
        self.assertEqual(restored({0: 2, 1: 5, 2: 6, 3: 7, 4: 8}, 2), [7, 8])
        self.assertEqual(restored({0: 2, 1: 5, 2: 6, 4: 8}, 2), [0, 8])
        self.assertEqual(restored({0: 3, 1: 5, 3: 7}, 1), [5])
        self.assertEqual(restored({0: 4, 1: 5, 2: 7}, 1), [7])
        self.assertEqual(restored({0: 7, 3: 5}, 3), [0, 0, 5])


class OutcomesTest(unittest.TestCase):
    def test_written_out(self):
        self.assertEqual(outcomes(SAFE, [[5]]), [(0, ()), (0, (5,)), (1, (5,))])
        self.assertEqual(outcomes(SAFE, [[5], [6]]), [
            (0, ()), (0, (5,)), (1, (5,)), (1, (6,)), (2, (6,))])
        self.assertEqual(outcomes(("data", "mark", "tell"), [[5]]), [
            (0, ()), (1, ()), (1, (0,)), (1, (5,))])
        self.assertEqual(bad_outcome(("data", "mark", "tell"), [[5]]), (1, ()))
        self.assertEqual(outcomes(("mark", "data", "tell"), [[5]]), [
            (0, ()), (0, (0,)), (1, ()), (1, (0,)), (1, (5,))])
        self.assertEqual(bad_outcome(("mark", "data", "tell"), [[5]]), (0, (0,)))
        self.assertEqual(bad_outcome(("data", "sink", "mark", "tell"), [[5]]), (1, ()))
        self.assertIsNone(bad_outcome(SAFE, [[5], [6]]))

    def test_torn_rows(self):
        """With the data behind the mark a row may be restored in part."""
        order = ("mark", "sink", "data", "sink", "tell")
        found = outcomes(order, [[1, 2], [3, 4]])
        for row in [(0, 0), (1, 0), (0, 2), (1, 2), ()]:
            self.assertIn((0, row), found)
        self.assertIn((1, (0, 4)), found)
        self.assertEqual(bad_outcome(order, [[1, 2], [3, 4]]), (0, (0, 0)))

    def test_against_all_crashes(self):
        every = [[[4]], [[1], [2]], [[1], [2], [3]], [[1, 2], [3, 4]], [[0, 1], [0, 1], [2, 0]], [[0], [0], [0]], [[7, 7]]]
        for order in all_orders(2):
            for rows in every:
                given = copy.deepcopy(rows)
                expected = slow_outcomes(order, rows)
                self.assertEqual(outcomes(order, rows), expected, (order, rows))
                wrong = [one for one in expected if is_wrong(rows, *one)]
                self.assertEqual(bad_outcome(order, rows), wrong[0] if wrong else None)
                self.assertEqual(rows, given)

    def test_against_all_crashes_with_many_sinks(self):
        for seed in range(60):
            chance = random.Random(seed)
            order = chance.choice([order for order in all_orders(4) if len(order) > 5])
            rows = [[chance.randrange(4) for _ in range(2)] for _ in range(chance.choice([1, 2, 2]))]
            self.assertEqual(outcomes(order, rows), slow_outcomes(order, rows), (order, rows))

    def test_sure_orders_and_no_others(self):
        for order in all_orders(4):
            for rows in [[[3]], [[1], [2]], [[5, 6], [7, 8], [9, 4]], [[1], [2], [3], [4], [5]]]:
                self.assertIs(bad_outcome(order, rows) is None, is_sure_order(order), (order, rows))

    def test_sure_orders_whatever_the_rows(self):
        rows_of = [[[0]], [[0], [0]], [[1], [1], [1]], [[0, 0], [0, 1], [0, 0]], [[2, 0, 2]] * 4]
        for order in all_orders(4):
            if is_sure_order(order):
                for rows in rows_of:
                    self.assertIsNone(bad_outcome(order, rows))

    def test_what_is_returned_is_new(self):
        for ask in (lambda: outcomes(SAFE, [[5]]), lambda: save_tape(SAFE, [[5]]), lambda: tells_at(SAFE, [[5]]),
                    lambda: restored({0: 1}, 3)):
            found = ask()
            before = list(found)
            found.clear()
            self.assertEqual(ask(), before)

    def test_time(self):
        begun = time.process_time()
        rows = [[k + 3 * n for n in range(4)] for k in range(8)]
        self.assertEqual(len(save_tape(SAFE, rows)), 8 * 7)
        self.assertIsNone(bad_outcome(SAFE, rows))
        self.assertIsNotNone(bad_outcome(("data", "mark", "sink", "tell"), rows))
        self.assertIsNotNone(bad_outcome(("data", "mark", "tell"), rows[:2]))
        self.assertLess(time.process_time() - begun, 2)


if __name__ == "__main__":
    unittest.main()
