"""Lists of those who wait [54]."""

import unittest
from itertools import permutations

from belowall.plans import Plan, standard
from tests.leading import IDLE, go, go_all, machine_of
from tests.tables import SORTS

PUT, TAKE, DRAIN = ("put", 0, 1), ("take", 0), ("drain", 0)
ALL_ORDERS = sorted(permutations(("join", "try", "heed")))


def by(*order, lock="each", left=False, passes=False, **wakes):
    """Return a plan with this order of awaits."""
    return Plan(lock, {"await": order} if order else {}, wakes, left, passes)


def words(machine, hand, times):
    """Return the words of so many steps of an await."""
    told = go(machine, hand, times)
    assert [deed for deed, _ in told] == ["await"] * times, told
    return [word for _, word in told]


class AwaitTest(unittest.TestCase):
    def test_done_at_once_in_all_orders(self):
        for order in ALL_ORDERS:
            machine = machine_of((PUT, PUT), rooms=(2,), plan=by(*order, put="none"))
            ahead = list(order[:order.index("try") + 1])
            self.assertEqual(words(machine, (0,), len(ahead)), ahead)
            self.assertEqual([machine.told(), machine.values_in(0), machine.putters(0)], [{(0,): ["done"]}, [1], []])
            self.assertEqual(words(machine, (0,), len(ahead)), ahead)
            self.assertEqual([machine.told(), machine.values_in(0)], [{(0,): ["done", "done"]}, [1, 1]])

    def test_not_done_in_all_orders(self):
        for order in ALL_ORDERS:
            machine = machine_of((TAKE,), rooms=(2,), plan=by(*order))
            for step in order:
                self.assertEqual(machine.step((0,)), ("await", step))
                joined = "join" in order[:order.index(step) + 1]
                self.assertEqual(machine.takers(0), [((0,), False)] if joined else [])
                self.assertEqual(machine.state((0,)), "able")
            self.assertEqual(machine.step((0,)), ("await", "rest"))
            self.assertEqual([machine.state((0,)), machine.able(), machine.takers(0), machine.told()],
                             ["asleep", [], [((0,), False)], {(0,): []}])

    def test_called_while_it_waits_in_all_orders(self):
        """A put between any two steps of a take: what is seen, and whether the hand sleeps."""
        for order in ALL_ORDERS:
            for many in range(1, 4):
                machine = machine_of((TAKE,), (PUT,), rooms=(2,), plan=by(*order))
                self.assertEqual(words(machine, (0,), many), list(order[:many]))
                self.assertEqual(words(machine, (1,), order.index("try") + 2), list(order[:order.index("try") + 1])
                                 + ["wake"])
                done = order[:many]
                self.assertEqual(machine.takers(0), [((0,), True)] if "join" in done else [])
                if "try" in done:
                    self.assertEqual(words(machine, (0,), 4 - many), list(order[many:]) + ["rest"])
                    self.assertEqual(machine.state((0,)), "able" if "join" in done else "asleep")
                else:
                    self.assertEqual(words(machine, (0,), order.index("try") + 1 - many), list(order[many:
                                     order.index("try") + 1]))
                    self.assertEqual(machine.values_in(0), [])

    def test_called_behind_the_rest_it_begins_anew(self):
        for order in ALL_ORDERS:
            machine = machine_of((TAKE,), (PUT, PUT), rooms=(1,), plan=by(*order))
            go(machine, (0,), 4)
            self.assertEqual(machine.state((0,)), "asleep")
            go(machine, (1,), order.index("try") + 2)
            self.assertEqual([machine.takers(0), machine.state((0,))], [[((0,), True)], "able"])
            ahead = list(order[:order.index("try") + 1])
            for step in ahead:
                self.assertEqual(machine.step((0,)), ("await", step))
                if step == "join":
                    self.assertEqual(machine.takers(0), [((0,), False)])
                elif step == "heed":
                    self.assertEqual(machine.takers(0), [((0,), "join" not in ahead[:ahead.index("heed")])])
            self.assertEqual([machine.takers(0), machine.values_in(0), machine.told()[(0,)]], [[], [], []])
            self.assertEqual([machine.step((0,)), machine.told()[(0,)]], [("await", "wake"), [1]])

    def test_rests_called_and_begins_anew_with_the_next_step(self):
        machine = machine_of((TAKE,), (PUT, TAKE), (TAKE,), rooms=(1,))
        go(machine, (0,), 2)
        go(machine, (1,), 3)
        self.assertEqual(go(machine, (2,), 3), [("await", "join"), ("await", "try"), ("await", "wake")])
        self.assertEqual(words(machine, (0,), 2), ["heed", "rest"])
        self.assertEqual([machine.state((0,)), machine.takers(0)], ["able", [((0,), True)]])
        self.assertEqual(words(machine, (0,), 4), ["join", "try", "heed", "rest"])
        self.assertEqual([machine.state((0,)), machine.takers(0)], ["asleep", [((0,), False)]])

    def test_joins_at_the_end(self):
        machine = machine_of((TAKE,), (TAKE,), (DRAIN,), (PUT,), rooms=(1,), plan=by(put="one"))
        for hand in [(1,), (2,), (0,)]:
            go(machine, hand, 4)
        self.assertEqual(machine.takers(0), [((1,), False), ((2,), False), ((0,), False)])
        go(machine, (3,), 3)
        self.assertEqual(machine.takers(0), [((1,), True), ((2,), False), ((0,), False)])
        go(machine, (1,), 1)
        self.assertEqual(machine.takers(0), [((2,), False), ((0,), False), ((1,), False)])

    def test_all_words_of_what_is_told(self):
        machine = machine_of((PUT, ("put", 0, 2), ("put", 0, 3), ("close", 0), PUT),
                             (TAKE, DRAIN, TAKE, DRAIN), rooms=(3,), plan=by(put="none", take="none", drain="none"))
        go(machine, (0,), 6)
        go(machine, (1,), 4)
        go(machine, (0,), 2)
        self.assertEqual(go_all(machine, (1,))[:4], [("await", "join"), ("await", "try")] * 2)
        go(machine, (0,), 2)
        self.assertEqual(machine.told(), {(0,): ["done", "done", "done", "done", "closed"], (1,): [1, (2, 3), "end", "end"]})

    def test_try_of_a_full_pipe(self):
        machine = machine_of((PUT, PUT, PUT), rooms=(2,))
        go(machine, (0,), 6)
        self.assertEqual(words(machine, (0,), 4), ["join", "try", "heed", "rest"])
        self.assertEqual([machine.putters(0), machine.values_in(0)], [[((0,), False)], [1, 1]])

    def test_pipes_have_their_own_lists(self):
        machine = machine_of((("take", 0),), (("take", 1),), (("put", 2, 5), ("put", 2, 6)), (("put", 1, 7),),
                             rooms=(1, 1, 1))
        for hand, times in [((0,), 4), ((1,), 4), ((2,), 3 + 4)]:
            go(machine, hand, times)
        self.assertEqual([machine.takers(0), machine.takers(1), machine.takers(2), machine.putters(2)],
                         [[((0,), False)], [((1,), False)], [], [((2,), False)]])
        go(machine, (3,), 3)
        self.assertEqual([machine.takers(0), machine.takers(1), machine.putters(2)],
                         [[((0,), False)], [((1,), True)], [((2,), False)]])

    def test_told_with_the_last_step(self):
        machine = machine_of((PUT,), rooms=(1,), plan=by(left=True))
        self.assertEqual(words(machine, (0,), 2), ["join", "try"])
        self.assertEqual([machine.values_in(0), machine.told(), machine.putters(0)], [[1], {(0,): []}, []])
        self.assertEqual([words(machine, (0,), 1), machine.told()], [["wake"], {(0,): []}])
        self.assertEqual([words(machine, (0,), 1), machine.told()], [["left"], {(0,): ["done"]}])


class WakeTest(unittest.TestCase):
    """Who is called by a put, take, drain or close; the other words wake all."""

    called = {"none": [False] * 3, "one": [True, False, False], "all": [True] * 3}

    def sleepers(self, row, plan):
        """Return a machine with three hands asleep in a row, and a fourth one who may free them."""
        calls = {
            "put": ((TAKE,),) * 3 + ((PUT,),),
            "take": ((PUT,),) * 3 + ((PUT, PUT, TAKE),),
            "drain": ((PUT,),) * 3 + ((PUT, PUT, DRAIN),),
            "close": ((TAKE,),) * 3 + ((("close", 0),),),
        }[row]
        machine = machine_of(*calls, rooms=(2,), plan=plan)
        if row in ("take", "drain"):
            go(machine, (3,), 2 * 3)
        for hand in [(0,), (1,), (2,)]:
            go(machine, hand, 4)
            self.assertEqual(machine.state(hand), "asleep")
        return machine

    def test_each_word(self):
        for word in ("put", "take", "drain"):
            for sort in SORTS:
                machine = self.sleepers(word, standard().with_wake(word, sort))
                row = machine.takers if word == "put" else machine.putters
                self.assertEqual(words(machine, (3,), 2), ["join", "try"])
                self.assertEqual(row(0), [((k,), False) for k in range(3)])
                told = len(machine.told()[(3,)])
                if sort != "none":
                    self.assertEqual([told, words(machine, (3,), 1)], [2 if word != "put" else 0, ["wake"]])
                self.assertEqual(row(0), [((k,), called) for k, called in enumerate(self.called[sort])])
                states = ["able" if called else "asleep" for called in self.called[sort]]
                self.assertEqual([machine.state((k,)) for k in range(3)], states)
                self.assertEqual(len(machine.told()[(3,)]), 3 if word != "put" else 1)

    def test_close_calls_in_both_lists(self):
        for sort in SORTS:
            machine = machine_of((("put", 1, 0), ("put", 1, 0)), (("put", 1, 0),), (("take", 0),), (("take", 0),),
                                 (("close", 0), ("close", 1), ("close", 0)), rooms=(1, 1),
                                 plan=standard().with_wake("close", sort))
            go(machine, (0,), 3)
            for k in range(4):
                go(machine, (k,), 4)
                self.assertEqual(machine.state((k,)), "asleep")
            both = self.called[sort][:2]
            self.assertEqual(machine.step((4,)), ("close", "seal"))
            self.assertEqual(machine.takers(0), [((2,), False), ((3,), False)])
            self.assertEqual([machine.told()[(4,)], machine.step((4,))], [[], ("close", "wake")])
            self.assertEqual(machine.takers(0), [((k + 2,), called) for k, called in enumerate(both)])
            self.assertEqual(machine.putters(1), [((0,), False), ((1,), False)])
            go(machine, (4,), 2)
            self.assertEqual(machine.putters(1), [((k,), called) for k, called in enumerate(both)])
            self.assertEqual(go(machine, (4,), 2), [("close", "seal"), ("close", "wake")])
            twice = self.called[sort] if sort != "one" else [True, True]
            self.assertEqual(machine.takers(0), [((k + 2,), called) for k, called in enumerate(twice[:2])])
            self.assertEqual(machine.told()[(4,)], ["done"] * 3)

    def test_close_one_calls_the_first_of_either_list_of_its_pipe(self):
        machine = machine_of((TAKE,), (TAKE,), (PUT,), (PUT,), (("close", 0),), rooms=(1,), plan=by(close="one"))
        for k in range(4):
            go(machine, (k,), 1)
        go(machine, (4,), 2)
        self.assertEqual([machine.takers(0), machine.putters(0)],
                         [[((0,), True), ((1,), False)], [((2,), True), ((3,), False)]])

    def test_close_with_wake_ahead_of_seal(self):
        machine = machine_of((TAKE,), (("close", 0),), rooms=(1,),
                             plan=standard().with_order("close", ("wake", "seal")))
        go(machine, (0,), 4)
        self.assertEqual(machine.step((1,)), ("close", "wake"))
        self.assertEqual(words(machine, (0,), 4), ["join", "try", "heed", "rest"])
        self.assertEqual([machine.step((1,)), machine.able(), machine.state((0,))], [("close", "seal"), [], "asleep"])

    def test_one_calls_the_first_that_is_not_called(self):
        machine = machine_of((TAKE,), (TAKE,), (TAKE,), (PUT, PUT, PUT), rooms=(3,), plan=by(put="one"))
        for k in range(3):
            go(machine, (k,), 4)
        for many in range(1, 4):
            go(machine, (3,), 3)
            self.assertEqual(machine.takers(0), [((k,), k < many) for k in range(3)])

    def test_nobody_to_be_called(self):
        for sort in ("one", "all"):
            machine = machine_of((PUT,), rooms=(1,), plan=by(put=sort))
            self.assertEqual(words(machine, (0,), 3), ["join", "try", "wake"])

    def test_no_wake_where_nothing_was_moved(self):
        machine = machine_of((("close", 0), PUT, TAKE, DRAIN, ("wait",), ("take", 0)), rooms=(1,))
        go(machine, (0,), 2)
        for telling in ("closed", "end", "end", "none", "end"):
            self.assertEqual(words(machine, (0,), 2), ["join", "try"])
            self.assertEqual(machine.told()[(0,)][-1], telling)

    def test_drain_calls_putters_and_take_of_a_sealed_pipe_too(self):
        machine = machine_of((PUT, PUT), (("close", 0), DRAIN), rooms=(1,), plan=by(close="none"))
        go(machine, (0,), 3 + 4)
        go(machine, (1,), 2 + 3)
        self.assertEqual([machine.told()[(1,)], machine.putters(0)], [["done", (1,)], [((0,), True)]])
        self.assertEqual([words(machine, (0,), 2), machine.told()[(0,)]], [["join", "try"], ["done", "closed"]])


class LeftTest(unittest.TestCase):
    def test_left_calls_the_next_of_the_own_kind(self):
        machine = machine_of((TAKE,), (TAKE,), (PUT, PUT), rooms=(2,), plan=by(left=True, put="one", take="none"))
        for k in range(2):
            go(machine, (k,), 4)
        self.assertEqual(words(machine, (2,), 4), ["join", "try", "wake", "left"])
        self.assertEqual([machine.takers(0), machine.putters(0)], [[((0,), True), ((1,), False)], []])
        self.assertEqual(words(machine, (2,), 2), ["join", "try"])
        self.assertEqual(words(machine, (0,), 2), ["join", "try"])
        self.assertEqual([machine.takers(0), machine.told()[(0,)]], [[((1,), False)], []])
        self.assertEqual(words(machine, (0,), 1), ["left"])
        self.assertEqual([machine.takers(0), machine.told()[(0,)], machine.state((1,))], [[((1,), True)], [1], "able"])

    def test_left_calls_nobody_who_could_not_go_on(self):
        machine = machine_of((TAKE,), (TAKE,), (PUT,), rooms=(2,), plan=by(left=True, put="one"))
        for k in range(2):
            go(machine, (k,), 4)
        go(machine, (2,), 4)
        self.assertEqual(words(machine, (0,), 4), ["join", "try", "wake", "left"])
        self.assertEqual([machine.takers(0), machine.state((1,))], [[((1,), False)], "asleep"])

    def test_left_of_putters(self):
        """Behind a put that leaves room, the next putter is called."""
        for room, called in ((1, False), (2, True)):
            machine = machine_of((("put", 0, 9),) * room + (PUT,), (PUT,), (DRAIN,), rooms=(room,),
                                 plan=by(left=True, drain="one", put="none"))
            go(machine, (0,), 3 * room + 4)
            go(machine, (1,), 4)
            self.assertEqual([machine.state((0,)), machine.state((1,))], ["asleep", "asleep"])
            self.assertEqual(words(machine, (2,), 4), ["join", "try", "wake", "left"])
            self.assertEqual(machine.putters(0), [((0,), True), ((1,), False)])
            self.assertEqual(words(machine, (0,), 3), ["join", "try", "left"])
            self.assertEqual(machine.putters(0), [((1,), called)])

    def test_left_of_a_sealed_pipe_whatever_is_told(self):
        for calls, first, telling in ((TAKE, "takers", "end"), (DRAIN, "takers", "end"), (PUT, "putters", "closed")):
            machine = machine_of((PUT,) * (calls == PUT) + (calls,), (calls,), (calls,), (("close", 0),), rooms=(1,),
                                 plan=by(left=True, close="one", put="none"))
            go(machine, (0,), 3 * (calls == PUT) + 4)
            for k in (1, 2):
                go(machine, (k,), 4)
            go(machine, (3,), 2)
            row = machine.takers if first == "takers" else machine.putters
            self.assertEqual(row(0), [((0,), True), ((1,), False), ((2,), False)])
            self.assertEqual(words(machine, (0,), 3), ["join", "try", "left"])
            self.assertEqual([machine.told()[(0,)][-1], row(0)], [telling, [((1,), True), ((2,), False)]])

    def test_no_left_for_a_wait_or_a_call_that_is_broken_off(self):
        machine = machine_of((("wait",), ("send", "root"), TAKE, TAKE), rooms=(1,), plan=by(left=True))
        self.assertEqual(words(machine, (0,), 2), ["join", "try"])
        self.assertEqual(machine.told()[(0,)], ["none"])
        go(machine, (0,), 2)
        self.assertEqual(words(machine, (0,), 3), ["join", "try", "heed"])
        self.assertEqual(machine.told()[(0,)], ["none", "done", "broken"])

    def test_no_step_without_left(self):
        machine = machine_of((PUT,), rooms=(1,), plan=by(put="none"))
        self.assertEqual([words(machine, (0,), 2), machine.told()[(0,)]], [["join", "try"], ["done"]])


class HeedTest(unittest.TestCase):
    def test_broken_off_in_all_orders(self):
        for order in ALL_ORDERS:
            machine = machine_of((("send", "root"), TAKE, PUT), rooms=(1,), plan=by(*order))
            go(machine, (0,), 2)
            self.assertEqual(machine.flags(), ["root"])
            ahead = list(order[:order.index("heed") + 1])
            self.assertEqual(words(machine, (0,), len(ahead)), ahead)
            self.assertEqual([machine.flags(), machine.told()[(0,)], machine.takers(0)], [[], ["done", "broken"], []])

    def test_heed_or_try_by_the_order(self):
        """A put that could be done is broken off if heed stands ahead of try."""
        for order in ALL_ORDERS:
            machine = machine_of((("send", "root"), PUT), rooms=(1,), plan=by(*order))
            go(machine, (0,), 2)
            while len(machine.told()[(0,)]) < 2:
                machine.step((0,))
            is_broken = order.index("heed") < order.index("try")
            self.assertEqual(machine.told()[(0,)], ["done", "broken" if is_broken else "done"])
            self.assertEqual([machine.values_in(0), machine.flags()], [[] if is_broken else [1], [] if is_broken else ["root"]])

    def test_one_flag_breaks_off_one_call(self):
        machine = machine_of((TAKE,), (("wait",), TAKE), (("send", "root"),), rooms=(1,))
        go(machine, (0,), 4)
        go(machine, (1,), 2 + 4)
        go(machine, (2,), 2)
        self.assertEqual(machine.takers(0), [((0,), True), ((1,), True)])
        self.assertEqual(words(machine, (1,), 3), ["join", "try", "heed"])
        self.assertEqual([machine.told()[(1,)], machine.takers(0)], [["none", "broken"], [((0,), True)]])
        self.assertEqual(words(machine, (0,), 4), ["join", "try", "heed", "rest"])
        self.assertEqual(machine.state((0,)), "asleep")

    def test_a_flag_of_another_process(self):
        machine = machine_of((("fork", "kid", ((TAKE,),)), TAKE), (("send", "kid"),), rooms=(1,))
        go(machine, (0,), 4 + 4)
        go(machine, (0, 0, 0), 4)
        go(machine, (1,), 2)
        self.assertEqual([machine.flags(), machine.takers(0)], [["kid"], [((0,), False), ((0, 0, 0), True)]])
        self.assertEqual(words(machine, (0, 0, 0), 3), ["join", "try", "heed"])
        self.assertEqual(machine.told()[(0, 0, 0)], ["broken"])

    def test_passes(self):
        """What called a hand that is broken off is passed on to the first of its list that is not called."""
        for passes in (False, True):
            machine = machine_of((TAKE,), (TAKE,), (TAKE,), (PUT, ("send", "root")), rooms=(1,),
                                 plan=by("join", "heed", "try", passes=passes, put="one"))
            for k in range(3):
                go(machine, (k,), 4)
            go(machine, (3,), 4)
            self.assertEqual(machine.takers(0), [((0,), True), ((1,), False), ((2,), False)])
            self.assertEqual(machine.step((3,)), ("send", "post"))
            self.assertEqual(words(machine, (0,), 2), ["join", "heed"])
            self.assertEqual(machine.takers(0), [((1,), passes), ((2,), False)])
            self.assertEqual([machine.state((1,)), machine.told()[(0,)]], ["able" if passes else "asleep", ["broken"]])

    def test_passes_in_the_list_of_its_kind(self):
        machine = machine_of((("put", 0, 0), PUT), (PUT,), (("wait",), TAKE), (("fork", "kid", ((("take", 1),),)), ("wait",)),
                             (("wait",), ("send", "root")), rooms=(1, 1), plan=by(passes=True))
        go(machine, (0,), 3 + 4)
        go(machine, (1,), 4)
        go(machine, (4,), 2)
        go(machine, (3,), 4 + 4)
        self.assertEqual([machine.putters(0), machine.waiters(())], [[((0,), False), ((1,), False)], [((3,), False)]])
        machine.step((4,))
        other = machine.copied()
        self.assertEqual(machine.flags(), ["root"])
        go(machine, (4,), 1)
        self.assertEqual([machine.putters(0), machine.waiters(())], [[((0,), True), ((1,), True)], [((3,), True)]])
        self.assertEqual(words(machine, (3,), 3), ["join", "try", "heed"])
        self.assertEqual([machine.putters(0), machine.waiters(())], [[((0,), True), ((1,), True)], []])
        # Without the rouse nobody but the one that is passed on to is called.
        self.assertEqual(other.putters(0), [((0,), False), ((1,), False)])

    def test_passes_to_nobody(self):
        machine = machine_of((("send", "root"), TAKE, ("wait",)), rooms=(1,), plan=by(passes=True))
        go(machine, (0,), 2)
        self.assertEqual(words(machine, (0,), 3), ["join", "try", "heed"])
        self.assertEqual([machine.takers(0), machine.told()[(0,)]], [[], ["done", "broken"]])


class SendTest(unittest.TestCase):
    def test_rouses_all_hands_of_the_process_in_all_lists(self):
        kid = ((TAKE,), (("put", 1, 0), ("put", 1, 0)), (("fork", "son", ((("take", 2),),)), ("wait",)))
        machine = machine_of((("fork", "kid", kid), TAKE), (("send", "kid"),), rooms=(1, 1, 1))
        go(machine, (0,), 4)
        hands = [(0, 0, 0), (0, 0, 1), (0, 0, 2)]
        go(machine, (0, 0, 0), 2)
        go(machine, (0, 0, 1), 3 + 4)
        go(machine, (0, 0, 2), 4 + 4)
        go(machine, (0,), 4)
        self.assertEqual([machine.state(hand) for hand in hands], ["able", "asleep", "asleep"])
        self.assertEqual(machine.step((1,)), ("send", "post"))
        self.assertEqual([machine.flags(), machine.told()[(1,)], machine.state(hands[1])], [["kid"], [], "asleep"])
        self.assertEqual(machine.step((1,)), ("send", "rouse"))
        self.assertEqual([machine.takers(0), machine.putters(1), machine.waiters((0, 0))],
                         [[((0, 0, 0), True), ((0,), False)], [((0, 0, 1), True)], [((0, 0, 2), True)]])
        self.assertEqual([machine.state(hand) for hand in hands], ["able"] * 3)
        self.assertEqual([machine.state((0,)), machine.told()[(1,)]], ["asleep", ["done"]])

    def test_rouse_ahead_of_post(self):
        machine = machine_of((TAKE,), (("send", "root"),), rooms=(1,),
                             plan=standard().with_order("send", ("rouse", "post")))
        go(machine, (0,), 4)
        self.assertEqual(machine.step((1,)), ("send", "rouse"))
        self.assertEqual(words(machine, (0,), 4), ["join", "try", "heed", "rest"])
        self.assertEqual([machine.step((1,)), machine.state((0,)), machine.flags()], [("send", "post"), "asleep", ["root"]])

    def test_to_nobody(self):
        machine = machine_of((("send", "kid"), ("send", "root")))
        self.assertEqual([machine.step((0,)), machine.told()[(0,)]], [("send", "none"), ["none"]])

    def test_to_one_that_has_ended(self):
        machine = machine_of((("fork", "kid", IDLE), ("send", "kid")))
        go(machine, (0,), 4)
        go(machine, (0, 0, 0), 4)
        self.assertEqual(go(machine, (0,), 2), [("send", "post"), ("send", "rouse")])
        self.assertEqual([machine.flags(), machine.told()[(0,)]], [[], ["done", "done"]])

    def test_to_one_that_ends_meanwhile(self):
        machine = machine_of((("fork", "kid", IDLE), ("send", "kid")))
        go(machine, (0,), 4)
        go(machine, (0, 0, 0), 2)
        self.assertEqual([machine.step((0,)), machine.flags()], [("send", "post"), ["kid"]])
        self.assertEqual([machine.step((0, 0, 0)), machine.flags()], [("exit", "end"), []])
        self.assertEqual([machine.step((0,)), machine.flags(), machine.told()[(0,)]],
                         [("send", "rouse"), [], ["done", "done"]])

    def test_to_the_very_process_though_another_has_its_name_now(self):
        """The kid ends, is told, and a second one with its name is forked, all between the two steps of the send."""
        machine = machine_of((("fork", "kid", IDLE), ("wait",), ("fork", "kid", ((TAKE,),))), (("send", "kid"),),
                             rooms=(1,), plan=standard().with_order("send", ("rouse", "post")))
        go(machine, (0,), 4)
        machine.step((1,))
        go(machine, (0, 0, 0), 4)
        go(machine, (0,), 2 + 4)
        go(machine, (0, 2, 0), 4)
        self.assertEqual(machine.step((1,)), ("send", "post"))
        self.assertEqual([machine.flags(), machine.told()[(1,)], machine.state((0, 2, 0))], [[], ["done"], "asleep"])


class WaitTest(unittest.TestCase):
    def test_the_least_name_of_those_that_have_ended(self):
        machine = machine_of((("fork", "c", IDLE), ("fork", "a", IDLE), ("fork", "b", IDLE)) + (("wait",),) * 4)
        go(machine, (0,), 12)
        go(machine, (0, 2, 0), 4)
        go(machine, (0, 0, 0), 4)
        self.assertEqual(words(machine, (0,), 2), ["join", "try"])
        self.assertEqual([machine.there(), machine.told()[(0,)][3:]], [["a", "c", "root"], ["b"]])
        go(machine, (0, 1, 0), 4)
        go(machine, (0,), 6)
        self.assertEqual([machine.there(), machine.told()[(0,)][3:]], [["root"], ["b", "a", "c", "none"]])

    def test_a_child_that_has_not_ended(self):
        machine = machine_of((("fork", "kid", IDLE), ("wait",)))
        go(machine, (0,), 4)
        self.assertEqual(words(machine, (0,), 4), ["join", "try", "heed", "rest"])
        self.assertEqual([machine.state((0,)), machine.waiters(())], ["asleep", [((0,), False)]])
        self.assertEqual([machine.step((0, 0, 0)), machine.state((0,))], [("exit", "adopt"), "asleep"])
        self.assertEqual([machine.step((0, 0, 0)), machine.state((0,))], [("exit", "rouse"), "able"])
        self.assertEqual(words(machine, (0,), 4), ["join", "try", "heed", "rest"])
        self.assertEqual([machine.step((0, 0, 0)), machine.state((0,))], [("exit", "end"), "asleep"])
        self.assertEqual([machine.step((0, 0, 0)), machine.state((0,))], [("exit", "wake"), "able"])
        self.assertEqual(machine.waiters(()), [((0,), True)])
        self.assertEqual([words(machine, (0,), 2), machine.told()[(0,)]], [["join", "try"], ["done", "kid"]])

    def test_lists_of_processes(self):
        kid = ((("fork", "son", ((TAKE,),)), ("wait",)), (("wait",),))
        machine = machine_of((("fork", "kid", kid), ("wait",)), rooms=(1,))
        go(machine, (0,), 8)
        go(machine, (0, 0, 0), 8)
        go(machine, (0, 0, 1), 4)
        self.assertEqual([machine.waiters(()), machine.waiters((0, 0)), machine.waiters((0, 0, 0, 0))],
                         [[((0,), False)], [((0, 0, 0), False), ((0, 0, 1), False)], []])


if __name__ == "__main__":
    unittest.main()
