"""reached and fault [51]."""

import copy
import unittest

from belowall import access as module
from belowall.access import fault, reached
from belowall.frames import Store


class ReachedTest(unittest.TestCase):
    def check(self, cache, table, page, is_write, frame, behind):
        given = copy.deepcopy((cache, table))
        told = reached(cache, table, page, is_write)
        self.assertIs(type(told), tuple)
        self.assertEqual(told, (frame, behind))
        self.assertEqual(list(told[1]), sorted(behind))
        self.assertEqual((cache, table), given)
        told[1][99] = None
        self.assertEqual((cache, table), given)

    def test_functions_stand_in_the_file(self):
        self.assertEqual([reached.__module__, fault.__module__], [module.__name__] * 2)

    def test_read_by_the_cache(self):
        for writable in (True, False):
            for table in ({}, {1: ("in", 8, True)}, {1: ("out", 0)}, {1: ("in", 3, not writable)}):
                self.check({1: (3, writable)}, table, 1, False, 3, {1: (3, writable)})

    def test_write_by_the_cache(self):
        for table in ({}, {1: ("in", 8, True)}, {1: ("in", 3, False)}, {1: ("out", 3)}):
            self.check({1: (3, True)}, table, 1, True, 3, {1: (3, True)})

    def test_read_by_the_table(self):
        for writable in (True, False):
            self.check({}, {1: ("in", 0, writable)}, 1, False, 0, {1: (0, writable)})
            self.check({0: (5, True), 2: (6, False)}, {0: ("out", 1), 1: ("in", 4, writable)}, 1, False, 4,
                       {0: (5, True), 1: (4, writable), 2: (6, False)})

    def test_write_by_the_table(self):
        self.check({}, {1: ("in", 0, True)}, 1, True, 0, {1: (0, True)})
        self.check({2: (0, False)}, {1: ("in", 7, True), 2: ("out", 0)}, 1, True, 7, {1: (7, True), 2: (0, False)})

    def test_write_by_the_table_where_the_cache_is_not_writable(self):
        self.check({1: (3, False)}, {1: ("in", 3, True)}, 1, True, 3, {1: (3, True)})
        self.check({1: (3, False)}, {1: ("in", 4, True)}, 1, True, 4, {1: (4, True)})

    def test_read_fault(self):
        self.check({}, {}, 1, False, None, {})
        self.check({}, {1: ("out", 0)}, 1, False, None, {})
        self.check({2: (0, True), 0: (1, False)}, {2: ("in", 0, True)}, 1, False, None, {0: (1, False), 2: (0, True)})

    def test_write_fault(self):
        for table in ({}, {1: ("out", 0)}, {1: ("in", 0, False)}, {0: ("in", 0, True)}):
            self.check({}, table, 1, True, None, {})
            self.check({1: (0, False), 0: (4, True)}, table, 1, True, None, {0: (4, True), 1: (0, False)})

    def test_cache_ascends(self):
        self.check({5: (0, True), 1: (1, True)}, {3: ("in", 2, False)}, 3, False, 2,
                   {1: (1, True), 3: (2, False), 5: (0, True)})
        self.check({5: (0, True), 1: (1, True)}, {}, 5, True, 0, {1: (1, True), 5: (0, True)})


class FaultTest(unittest.TestCase):
    def store(self, *counts):
        found = Store()
        for number, count in enumerate(counts):
            for _ in range(count):
                found.raise_one(number)
        return found

    def test_none(self):
        self.assertEqual(fault({}, self.store(1), 0), "none")
        self.assertEqual(fault({1: ("in", 0, True), 2: ("out", 0)}, self.store(1), 0), "none")

    def test_fetch(self):
        for counts in ((), (1,), (2,)):
            self.assertEqual(fault({3: ("out", 0), 0: ("in", 0, False)}, self.store(*counts), 3), "fetch")

    def test_open(self):
        self.assertEqual(fault({3: ("in", 0, False)}, self.store(1), 3), "open")
        self.assertEqual(fault({3: ("in", 2, False)}, self.store(3, 0, 1), 3), "open")

    def test_copy(self):
        for count in (2, 3, 5, 0):
            self.assertEqual(fault({3: ("in", 1, False)}, self.store(1, count), 3), "copy")

    def test_nothing_is_changed(self):
        table, store = {3: ("in", 0, False)}, self.store(1)
        fault(table, store, 3)
        self.assertEqual(table, {3: ("in", 0, False)})
        self.assertTrue(store == self.store(1))


if __name__ == "__main__":
    unittest.main()
