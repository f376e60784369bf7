"""Store [50]."""

import random
import unittest

from belowall import frames as module
from belowall.frames import Store
from belowall.plans import standard
from tests.anyvalues import any_values, truths


def looks(store):
    """Return all that a Store tells."""
    return (store.taken(), [(store.count_of(n), store.values_of(n)) for n in range(30)])


class SlowStore:
    """Counts and values in full, for 30 of them."""

    def __init__(self):
        self.rows = [[0, 0, 0] for _ in range(30)]

    def do(self, word, number, one, other):
        row = self.rows[number]
        if word == "take":
            least = [row[0] for row in self.rows].index(0)
            self.rows[least][0] = 1
            return least
        if word == "raise":
            row[0] += 1
        elif word == "lower":
            row[0] = max(0, row[0] - 1)
        elif word == "change":
            row[1 + one % 2] = other
        else:
            row[1:] = [one, other]
        return None

    def looks(self):
        return ([n for n, row in enumerate(self.rows) if row[0]], [(row[0], row[1:]) for row in self.rows])


def do_alike(store, word, number, one, other):
    """Do with a Store what a SlowStore does."""
    return {
        "take": lambda: store.take(), "raise": lambda: store.raise_one(number),
        "lower": lambda: store.lower_one(number), "change": lambda: store.change(number, one % 2, other),
        "fill": lambda: store.fill(number, [one, other]),
    }[word]()


class StoreTest(unittest.TestCase):
    def test_methods_stand_in_the_class(self):
        self.assertEqual(Store.__module__, module.__name__)
        for word in ("take", "count_of", "values_of", "taken", "change", "fill", "raise_one", "lower_one", "copied",
                     "__eq__"):
            self.assertIn(word, vars(Store))

    def test_never_taken(self):
        store = Store()
        self.assertEqual(store.taken(), [])
        for number in (0, 1, 7, 999, 1000):
            self.assertEqual([store.count_of(number), store.values_of(number)], [0, [0, 0]])
        store.change(1000, 1, 6)
        store.raise_one(999)
        self.assertEqual([store.values_of(1000), store.count_of(1000), store.taken()], [[0, 6], 0, [999]])

    def test_take_the_least_free_one(self):
        store = Store()
        self.assertEqual([store.take() for _ in range(4)], [0, 1, 2, 3])
        store.lower_one(2)
        store.lower_one(1)
        self.assertEqual(store.taken(), [0, 3])
        self.assertEqual([store.take(), store.take(), store.take()], [1, 2, 4])
        self.assertEqual([store.count_of(n) for n in range(6)], [1, 1, 1, 1, 1, 0])

    def test_values_stay(self):
        store = Store()
        store.take()
        store.fill(0, [3, 4])
        store.lower_one(0)
        self.assertEqual([store.taken(), store.values_of(0)], [[], [3, 4]])
        self.assertEqual([store.take(), store.values_of(0)], [0, [3, 4]])

    def test_raise_and_lower(self):
        store = Store()
        for _ in range(3):
            self.assertIsNone(store.raise_one(5))
        self.assertEqual([store.count_of(5), store.take(), store.taken()], [3, 0, [0, 5]])
        counts = []
        for _ in range(5):
            self.assertIsNone(store.lower_one(5))
            counts.append(store.count_of(5))
        self.assertEqual([counts, store.taken()], [[2, 1, 0, 0, 0], [0]])
        store.raise_one(5)
        self.assertEqual(store.count_of(5), 1)

    def test_change_and_fill(self):
        store = Store()
        self.assertIsNone(store.change(2, 1, 9))
        self.assertEqual(store.values_of(2), [0, 9])
        store.change(2, 0, 10 ** 39)
        self.assertEqual(store.values_of(2), [10 ** 39, 9])
        row = [1, 2]
        self.assertIsNone(store.fill(2, row))
        row[0] = 7
        self.assertEqual([store.values_of(2), row], [[1, 2], [7, 2]])
        store.change(2, 0, 0)
        store.change(2, 1, 0)
        self.assertEqual([store.values_of(2), store == Store()], [[0, 0], True])

    def test_what_is_told_is_new(self):
        store = Store()
        store.take()
        store.fill(0, [1, 2])
        store.values_of(0)[0] = 5
        store.taken().append(3)
        self.assertEqual([store.values_of(0), store.taken()], [[1, 2], [0]])

    def test_equal(self):
        one, other = Store(), Store()
        self.assertIs(one == other, True)
        one.take()
        self.assertIs(one == other, False)
        other.raise_one(0)
        self.assertIs(one == other, True)
        one.change(8, 0, 1)
        self.assertIs(one == other, False)
        self.assertIs(one != other, True)
        other.fill(8, [1, 0])
        self.assertIs(one == other, True)
        one.raise_one(0)
        self.assertFalse(one == other)
        one.lower_one(0)
        one.fill(8, [0, 0])
        other.change(8, 0, 0)
        self.assertIs(one == other, True)

    def test_equal_to_nothing_else(self):
        for thing in any_values() + truths() + [standard(), {}, [], 0]:
            self.assertIs(Store() == thing, False)
            self.assertIs(thing == Store(), False)

    def test_copied_goes_on_by_itself(self):
        store = Store()
        store.take()
        store.fill(0, [4, 5])
        other = store.copied()
        self.assertIsInstance(other, Store)
        self.assertTrue(store == other)
        other.take()
        other.change(0, 0, 9)
        self.assertEqual([store.taken(), store.values_of(0)], [[0], [4, 5]])
        store.lower_one(0)
        store.fill(3, [1, 1])
        self.assertEqual([other.taken(), other.values_of(0), other.values_of(3)], [[0, 1], [9, 5], [0, 0]])

    def test_by_chance(self):
        for seed in range(60):
            chance = random.Random(seed)
            store, slow = Store(), SlowStore()
            for _ in range(40):
                told = (chance.choice(["take", "take", "raise", "lower", "lower", "change", "fill"]),
                        chance.randrange(8), chance.randrange(3), chance.randrange(3))
                self.assertEqual(do_alike(store, *told), slow.do(*told))
                self.assertEqual(looks(store), slow.looks())


if __name__ == "__main__":
    unittest.main()
