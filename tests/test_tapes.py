"""Tapes [90]."""

import copy
import itertools
import random
import time
import unittest

from belowall import tapes as module
from belowall.tapes import can_leave, crashes, fewest_sinks, is_crash, keeps, left, sure, with_sinks
from tests.anyvalues import any_values, truths

SINK = ("sink",)


def w(block, value):
    return ("write", block, value)


def writes_of(tape):
    return [at for at, entry in enumerate(tape) if entry != SINK]


def slow_is_crash(tape, crash):
    """Tell of an ascending tuple of indexes of writes whether it is a crash, just as the document tells."""
    for at in crash:
        for sink in [k for k in range(at) if tape[k] == SINK]:
            if not all(ahead in crash for ahead in writes_of(tape) if ahead < sink):
                return False
    return True


def slow_crashes(tape):
    """Return all crashes of a tape, by trying all tuples of writes."""
    writes = writes_of(tape)
    picks = [pick for many in range(len(writes) + 1) for pick in itertools.combinations(writes, many)]
    return sorted(pick for pick in picks if slow_is_crash(tape, pick))


def slow_left(tape, crash):
    return {tape[at][1]: tape[at][2] for at in crash}


def is_late(tape, crash):
    sinks = [at for at, entry in enumerate(tape) if entry == SINK]
    return not sinks or all(at in crash for at in writes_of(tape) if at < sinks[-1])


def slow_sure(tape):
    lefts = [slow_left(tape, crash) for crash in slow_crashes(tape) if is_late(tape, crash)]
    return {block: value for block, value in lefts[0].items() if all(one.get(block) == value for one in lefts)}


def moved(places, at):
    """Return where the entry with an index stands in a tape with sinks."""
    return at + len([place for place in places if place <= at])


def slow_fewest(tape, pairs):
    """Return the least tuple of fewest places, by trying all places and looking at all crashes."""
    for many in range(len(tape) + 1):
        for places in itertools.combinations(range(1, len(tape)), many):
            other = with_sinks(tape, places)
            found = slow_crashes(other)
            if all(moved(places, one) in crash for one, two in pairs for crash in found if moved(places, two) in crash):
                return places


def draw(chance, most=7):
    """Return a tape by chance."""
    sinks = chance.choice([0, 0.2, 0.5])
    return [SINK if chance.random() < sinks else w(chance.randrange(3), chance.randrange(3))
            for _ in range(chance.randrange(most + 1))]


TAPES = [
    [], [SINK], [SINK, SINK, SINK], [w(0, 1)], [SINK, w(0, 1)], [w(0, 1), SINK], [w(0, 1), SINK, SINK, w(0, 2)],
    [w(0, 1), w(0, 2)], [w(0, 1), w(1, 1), SINK, w(0, 2), SINK, w(1, 3), w(2, 3)], [SINK, w(0, 0), w(0, 1), w(0, 0), SINK],
    [w(0, 1), SINK, w(0, 1), w(1, 2)], [w(0, 1), SINK, w(0, 2), w(0, 1)],
]


class CrashTest(unittest.TestCase):
    def test_functions_stand_in_the_file(self):
        for function in (is_crash, crashes, left, can_leave, sure, keeps, with_sinks, fewest_sinks):
            self.assertEqual(function.__module__, module.__name__)

    def test_written_out(self):
        tape = [w(0, 5), w(1, 6), SINK, w(0, 7), SINK]
        self.assertEqual(crashes(tape), [(), (0,), (0, 1), (0, 1, 3), (1,)])
        self.assertEqual([left(tape, crash) for crash in crashes(tape)], [
            {}, {0: 5}, {0: 5, 1: 6}, {0: 7, 1: 6}, {1: 6}])
        self.assertEqual(crashes([]), [()])
        self.assertEqual(crashes([SINK, SINK]), [()])
        self.assertEqual(crashes([SINK, w(3, 1), w(3, 2)]), [(), (1,), (1, 2), (2,)])
        self.assertEqual(left([w(3, 1), w(3, 2)], (0, 1)), {3: 2})

    def test_tapes_and_chance(self):
        for tape in TAPES + [draw(random.Random(seed)) for seed in range(250)]:
            given = copy.deepcopy(tape)
            found = slow_crashes(tape)
            self.assertEqual(crashes(tape), found, tape)
            for many in range(3):
                for thing in itertools.product(range(-1, len(tape) + 1), repeat=many):
                    self.assertIs(is_crash(tape, thing), thing in found, (tape, thing))
            for crash in found:
                self.assertIs(is_crash(tape, crash), True)
                self.assertEqual(left(tape, crash), slow_left(tape, crash))
                self.assertEqual(list(left(tape, crash)), sorted(left(tape, crash)))
            self.assertEqual(tape, given)

    def test_indexes_out_twice_out_of_order_and_of_a_sink(self):
        tape = [w(0, 1), w(1, 1), SINK, w(2, 1)]
        for thing in [(0, 0), (1, 0), (2,), (0, 1, 2), (0, 1, 2, 3), (4,), (0, 1, 4), (-1,), (3,), (0, 3), (1, 3),
                      (0, 1, 3, 3), (3, 0, 1), [0, 1], [], {0: 1}, "0", (0, "1"), (0, None), ((0,),), (0, [1]),
                      (True,), (False,), (0, True), (False, 1), (0, 1, 3, None), 0, None, True]:
            self.assertIs(is_crash(tape, thing), False, thing)
        for thing in [(), (0,), (1,), (0, 1), (0, 1, 3)]:
            self.assertIs(is_crash(tape, thing), True)

    def test_any_value(self):
        for tape in TAPES:
            for thing in any_values() + truths():
                self.assertIs(is_crash(tape, thing), False)

    def test_what_is_returned_is_new(self):
        tape = TAPES[8]
        for ask in (lambda: crashes(tape), lambda: left(tape, (0, 1)), lambda: sure(tape), lambda: with_sinks(tape, (1,))):
            found = ask()
            before = copy.deepcopy(found)
            found.clear()
            self.assertEqual(ask(), before)

    def test_time(self):
        ten = [w(k % 7, k) for k in range(10)]
        forty = [entry for _ in range(4) for entry in ten + [SINK]]
        begun = time.process_time()
        self.assertEqual(len(crashes(ten)), 1024)
        self.assertEqual(len(crashes(forty)), 4 * 1023 + 1)
        for crash in crashes(forty):
            left(forty, crash)
        sure(forty)
        can_leave(forty, {k: 6 for k in range(7)})
        pairs = [(one, other) for one in writes_of(forty) for other in writes_of(forty) if one < other]
        self.assertEqual(len(fewest_sinks(forty, pairs)), 4 * 9)
        self.assertLess(time.process_time() - begun, 2)


class LeaveTest(unittest.TestCase):
    def test_written_out(self):
        tape = [w(0, 5), w(1, 6), SINK, w(0, 7)]
        for wish, expected in [({}, True), ({0: None}, True), ({0: None, 1: None}, True), ({0: 7, 1: None}, False),
                               ({0: 7, 1: 6}, True), ({1: 6, 0: None}, True), ({0: 7}, True), ({0: 6}, False),
                               ({9: None}, True), ({9: 0}, False), ({0: 5, 1: 6}, True), ({0: 0}, False)]:
            self.assertIs(can_leave(tape, wish), expected, wish)
        self.assertIs(can_leave([], {0: None}), True)
        self.assertIs(can_leave([], {0: 0}), False)
        self.assertIs(can_leave([w(0, 0)], {0: 0}), True)

    def test_two_blocks_not_at_one_crash(self):
        """Each of the two can be so by itself, but behind other sinks."""
        tape = [w(0, 1), SINK, w(1, 1), SINK, w(0, 2)]
        self.assertIs(can_leave(tape, {0: None}), True)
        self.assertIs(can_leave(tape, {1: 1}), True)
        self.assertIs(can_leave(tape, {0: None, 1: 1}), False)
        self.assertIs(can_leave(tape, {0: 2, 1: None}), False)
        self.assertIs(can_leave(tape, {0: 1, 1: 1}), True)

    def test_tapes_and_chance(self):
        for seed, tape in enumerate(TAPES + [draw(random.Random(seed)) for seed in range(200)]):
            chance = random.Random(seed)
            lefts = [slow_left(tape, crash) for crash in slow_crashes(tape)]
            for _ in range(12):
                wish = {block: chance.choice([None, 0, 1, 2]) for block in chance.sample(range(4), chance.randrange(4))}
                expected = any(all(one.get(block) == value for block, value in wish.items()) for one in lefts)
                self.assertIs(can_leave(tape, wish), expected, (tape, wish))

    def test_sure(self):
        self.assertEqual(sure([w(0, 1), SINK, w(1, 2)]), {0: 1})
        self.assertEqual(sure([w(0, 1)]), {})
        self.assertEqual(sure([w(1, 2), w(0, 1), w(1, 3), SINK]), {0: 1, 1: 3})
        self.assertEqual(sure([w(0, 1), SINK, w(0, 1), w(0, 1)]), {0: 1})
        self.assertEqual(sure([w(0, 1), SINK, w(0, 2), w(0, 1)]), {})
        self.assertEqual(sure([]), {})
        for tape in TAPES + [draw(random.Random(seed)) for seed in range(300)]:
            self.assertEqual(sure(tape), slow_sure(tape), tape)
            self.assertEqual(list(sure(tape)), sorted(sure(tape)))


class PairsTest(unittest.TestCase):
    def test_within_a_stretch_and_across_a_sink(self):
        tape = [w(0, 1), w(1, 1), SINK, w(0, 2), SINK, SINK, w(1, 2)]
        for pair, expected in [((0, 1), False), ((0, 3), True), ((1, 3), True), ((0, 6), True), ((3, 6), True)]:
            self.assertIs(keeps(tape, [pair]), expected)
        self.assertIs(keeps(tape, []), True)
        self.assertIs(keeps(tape, [(0, 3), (3, 6)]), True)
        self.assertIs(keeps(tape, [(0, 3), (0, 1)]), False)

    def test_with_sinks(self):
        tape = [w(0, 1), w(1, 1), SINK, w(0, 2)]
        self.assertEqual(with_sinks(tape, ()), tape)
        self.assertEqual(with_sinks(tape, (1,)), [w(0, 1), SINK, w(1, 1), SINK, w(0, 2)])
        self.assertEqual(with_sinks(tape, (1, 2, 3)), [w(0, 1), SINK, w(1, 1), SINK, SINK, SINK, w(0, 2)])
        self.assertEqual(tape, [w(0, 1), w(1, 1), SINK, w(0, 2)])

    def test_fewest_written_out(self):
        tape = [w(0, k) for k in range(6)]
        for pairs, expected in [([], ()), ([(0, 1)], (1,)), ([(0, 5)], (1,)), ([(2, 4)], (3,)), ([(0, 3), (2, 5)], (3,)),
                                ([(0, 1), (4, 5)], (1, 5)), ([(0, 2), (2, 4), (3, 5)], (1, 4)),
                                ([(0, 3), (1, 2), (3, 5)], (2, 4)), ([(0, 1), (0, 1)], (1,))]:
            self.assertEqual(fewest_sinks(tape, pairs), expected, pairs)
        with_one = tape[:3] + [SINK] + tape[3:]
        self.assertEqual(fewest_sinks(with_one, [(0, 6), (2, 4)]), ())
        self.assertEqual(fewest_sinks(with_one, [(0, 6), (4, 6)]), (5,))
        self.assertEqual(fewest_sinks([], []), ())

    def test_against_all_places(self):
        for seed in range(250):
            chance = random.Random(seed)
            tape = draw(chance)
            every = [(one, other) for one in writes_of(tape) for other in writes_of(tape) if one < other]
            pairs = chance.sample(every, min(len(every), chance.randrange(6)))
            given = copy.deepcopy((tape, pairs))
            found = slow_crashes(tape)
            expected = all(one in crash for one, other in pairs for crash in found if other in crash)
            self.assertIs(keeps(tape, pairs), expected)
            places = fewest_sinks(tape, pairs)
            self.assertEqual(places, slow_fewest(tape, pairs), (tape, pairs))
            self.assertIs(type(places), tuple)
            sunk = with_sinks(tape, places)
            self.assertIs(keeps(sunk, [(moved(places, one), moved(places, other)) for one, other in pairs]), True)
            self.assertEqual((tape, pairs), given)


if __name__ == "__main__":
    unittest.main()
