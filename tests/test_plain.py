"""Plain [40], [41]."""

import copy
import random
import unittest

from belowall import plain as module
from belowall.errors import NoChild, NoPipe, NoProcess, Stuck, Wrong
from belowall.kinds import is_work
from belowall.plain import Plain
from belowall.plans import standard
from belowall.works import hands_in, processes_in
from tests.anyvalues import any_values, truths
from tests.slowplain import SlowPlain, work_by_chance

IDLE = ((),)


def plain_of(*hands, rooms=(), outs=()):
    """Return a Plain of the work with these hands."""
    return Plain((hands, rooms, outs))


def do_all(plain, hand=(0,)):
    """Do the calls of a hand as long as they can be done, and return what they tell."""
    found = []
    while hand in plain.able():
        found.append(plain.do(hand))
    return found


def looks(plain, work):
    """Return all that a Plain tells without being changed."""
    pages = {}
    for process in processes_in(work):
        try:
            pages[process] = plain.pages(process)
        except NoProcess:
            pages[process] = None
    pipes = [plain.values_in(pipe) for pipe in range(len(work[1]))]
    return (plain.able(), plain.breakable(), plain.endable(), plain.told(), plain.there(), pages, pipes)


class PlainCase(unittest.TestCase):
    def stuck(self, call, agent):
        with self.assertRaises(Stuck) as caught:
            call(agent)
        self.assertIs(caught.exception.agent, agent)


class BeginningTest(PlainCase):
    def test_beginning(self):
        plain = plain_of((("map", 0),), (), (("take", 1),), rooms=(1, 2))
        self.assertEqual(plain.told(), {(0,): [], (1,): [], (2,): []})
        self.assertEqual([plain.able(), plain.breakable(), plain.endable()], [[(0,)], [], []])
        self.assertEqual([plain.there(), plain.pages(()), plain.values_in(0), plain.values_in(1)], [["root"], {}, [], []])

    def test_example_of_the_document(self):
        kid = ((("read", 0, 1),),)
        calls = (("map", 0), ("write", 0, 1, 7), ("fork", "kid", kid), ("write", 0, 1, 8), ("wait",))
        plain = Plain(((calls,), (), ()))
        self.assertEqual([plain.do((0,)) for k in range(4)], ["done"] * 4)
        self.assertEqual([plain.able(), plain.do((0, 2, 0)), plain.able(), plain.endable()],
                         [[(0, 2, 0)], 7, [], [(0, 2)]])
        self.assertIsNone(plain.end((0, 2)))
        self.assertEqual([plain.do((0,)), plain.there()], ["kid", ["root"]])

    def test_no_work(self):
        near = [((), (), ()), (((),), (), [("root", 0)]), [IDLE, (), ()], (((("take", 0),),), (), ()), IDLE, (IDLE, ())]
        near += [(((("read", 0, True),),), (), ()), (IDLE, (True,), ()), Plain((IDLE, (), ())), standard(), 0, 1]
        for thing in near + any_values() + truths():
            self.assertFalse(is_work(thing))
            with self.assertRaises(Wrong) as caught:
                Plain(thing)
            self.assertIs(type(caught.exception.place), int)
            self.assertEqual(caught.exception.place, 0)

    def test_methods_stand_in_the_class(self):
        for word in ("able", "breakable", "endable", "there", "do", "break_off", "end", "told", "pages", "values_in",
                     "copied", "__eq__", "__init__"):
            self.assertIn(word, vars(Plain))
        self.assertEqual(Plain.__module__, module.__name__)

    def test_what_is_told_is_new_and_ascends(self):
        calls = (("map", 3), ("map", 1), ("map", 2), ("fork", "zoe", IDLE), ("fork", "amy", IDLE), ("put", 0, 4))
        plain = plain_of((), calls, rooms=(3,))
        do_all(plain, (1,))
        work = (((), calls), (3,), ())
        before = copy.deepcopy(looks(plain, work))
        self.assertEqual(list(plain.told()), [(0,), (1,), (1, 3, 0), (1, 4, 0)])
        self.assertEqual(list(plain.pages(())), [1, 2, 3])
        self.assertEqual(plain.there(), ["amy", "root", "zoe"])
        self.assertEqual(plain.endable(), [(), (1, 3), (1, 4)])
        plain.told()[(1,)].append("x")
        plain.told().clear()
        plain.pages(())[1][0] = 5
        plain.pages((1, 3))[1][1] = 5
        plain.pages(()).clear()
        for told in (plain.able, plain.breakable, plain.endable, plain.there):
            told().append(None)
        plain.values_in(0).append(9)
        self.assertEqual(looks(plain, work), before)


class PagesTest(PlainCase):
    def test_map(self):
        plain = plain_of((("map", 2), ("write", 2, 0, 9), ("map", 2), ("map", 0)))
        self.assertEqual(do_all(plain), ["done", "done", "there", "done"])
        self.assertEqual(plain.pages(()), {0: [0, 0], 2: [9, 0]})

    def test_drop(self):
        plain = plain_of((("drop", 0), ("map", 0), ("write", 0, 0, 4), ("map", 1), ("drop", 0), ("drop", 0),
                          ("read", 0, 0), ("map", 0), ("read", 0, 0)))
        self.assertEqual(do_all(plain), ["none", "done", "done", "done", "done", "none", "none", "done", 0])
        self.assertEqual(plain.pages(()), {0: [0, 0], 1: [0, 0]})

    def test_read_and_write(self):
        calls = (("read", 0, 0), ("write", 0, 0, 1), ("map", 0), ("read", 0, 1), ("write", 0, 1, 10 ** 39),
                 ("read", 0, 0), ("read", 0, 1), ("write", 0, 0, 3), ("read", 0, 0), ("write", 0, 1, 0), ("read", 0, 1))
        plain = plain_of(calls)
        self.assertEqual(do_all(plain), ["none", "none", "done", 0, "done", 0, 10 ** 39, "done", 3, "done", 0])
        self.assertEqual(plain.pages(()), {0: [3, 0]})

    def test_hands_share_pages(self):
        plain = plain_of((("map", 0), ("read", 0, 0)), (("write", 0, 0, 5), ("map", 0), ("drop", 0)))
        self.assertEqual([plain.do(hand) for hand in [(0,), (1,), (0,), (1,), (1,)]], ["done", "done", 5, "there", "done"])
        self.assertEqual(plain.pages(()), {})

    def test_pages_of_what_is_no_process(self):
        plain = plain_of((("fork", "kid", IDLE), ("map", 0)))
        for thing in [(0, 0), (0, 1)] + any_values() + truths() + [(0,), [], "root", "kid", 0, [0, 0], (False, 0)]:
            with self.assertRaises(NoProcess) as caught:
                plain.pages(thing)
            self.assertIs(caught.exception.process, thing)
        plain.do((0,))
        self.assertEqual(plain.pages((0, 0)), {})
        for thing in [(False, 0), (0, False), [0, 0], (0, 1), (0, 0, 0)]:
            with self.assertRaises(NoProcess) as caught:
                plain.pages(thing)
            self.assertIs(caught.exception.process, thing)


class ForkTest(PlainCase):
    def test_fork_copies_the_pages(self):
        kid = ((("read", 0, 0), ("write", 0, 0, 2), ("drop", 1), ("map", 5)), (("read", 0, 0),))
        calls = (("map", 0), ("map", 1), ("write", 0, 0, 1), ("fork", "kid", kid), ("write", 0, 0, 3), ("read", 0, 0))
        plain = plain_of((), calls)
        self.assertEqual(do_all(plain, (1,)), ["done"] * 5 + [3])
        self.assertEqual(plain.pages((1, 3)), {0: [1, 0], 1: [0, 0]})
        self.assertEqual(plain.able(), [(1, 3, 0), (1, 3, 1)])
        self.assertEqual(do_all(plain, (1, 3, 0)), [1, "done", "done", "done"])
        self.assertEqual(plain.do((1, 3, 1)), 2)
        self.assertEqual(plain.pages((1, 3)), {0: [2, 0], 5: [0, 0]})
        self.assertEqual(plain.pages(()), {0: [3, 0], 1: [0, 0]})
        self.assertEqual(plain.there(), ["kid", "root"])

    def test_a_name_that_is_there(self):
        plain = plain_of((("fork", "root", IDLE), ("fork", "kid", IDLE), ("fork", "kid", ((("map", 0),),)), ("map", 1)))
        self.assertEqual(do_all(plain), ["there", "done", "there", "done"])
        self.assertEqual(list(plain.told()), [(0,), (0, 1, 0)])
        self.assertEqual(plain.there(), ["kid", "root"])
        self.assertEqual(plain.able(), [])

    def test_a_name_whose_process_has_ended_is_there_till_a_wait(self):
        plain = plain_of((("fork", "kid", IDLE), ("fork", "kid", IDLE), ("wait",), ("fork", "kid", IDLE)))
        plain.do((0,))
        plain.end((0, 0))
        self.assertEqual(plain.there(), ["kid", "root"])
        self.assertEqual([plain.do((0,)) for _ in range(3)], ["there", "kid", "done"])
        self.assertEqual(plain.endable(), [(), (0, 3)])
        self.assertEqual(plain.there(), ["kid", "root"])

    def test_the_flag_is_down(self):
        kid = ((("wait",), ("take", 0)),)
        plain = plain_of((("send", "root"), ("fork", "kid", kid), ("wait",)), rooms=(1,))
        self.assertEqual([plain.do((0,)), plain.do((0,))], ["done", "done"])
        self.assertEqual(plain.breakable(), [(0,)])
        plain.do((0, 1, 0))
        self.assertEqual(plain.breakable(), [(0,)])

    def test_forks_in_forks(self):
        son = ((("map", 1),),)
        kid = ((), (("read", 0, 1), ("fork", "son", son), ("wait",)))
        plain = plain_of((("map", 0), ("write", 0, 1, 6), ("fork", "kid", kid), ("wait",)))
        do_all(plain)
        self.assertEqual(do_all(plain, (0, 2, 1)), [6, "done"])
        self.assertEqual(plain.pages((0, 2, 1, 1)), {0: [0, 6]})
        self.assertEqual(do_all(plain, (0, 2, 1, 1, 0)), ["done"])
        self.assertEqual(plain.endable(), [(0, 2, 1, 1)])
        plain.end((0, 2, 1, 1))
        self.assertEqual(plain.able(), [(0, 2, 1)])
        self.assertEqual(plain.do((0, 2, 1)), "son")
        plain.end((0, 2))
        self.assertEqual(do_all(plain), ["kid"])


class PipesTest(PlainCase):
    def test_put_and_take(self):
        plain = plain_of((("put", 0, 5), ("put", 0, 6), ("put", 0, 7)), (("take", 0),) * 4, rooms=(2,))
        self.stuck(plain.do, (1,))
        self.assertEqual(do_all(plain), ["done", "done"])
        self.assertEqual([plain.values_in(0), plain.able()], [[5, 6], [(1,)]])
        self.stuck(plain.do, (0,))
        self.assertEqual(plain.do((1,)), 5)
        self.assertEqual([plain.values_in(0), plain.able()], [[6], [(0,), (1,)]])
        self.assertEqual(plain.do((0,)), "done")
        self.assertEqual(plain.values_in(0), [6, 7])
        self.assertEqual([do_all(plain, (1,)), plain.values_in(0), plain.able()], [[6, 7], [], []])
        self.stuck(plain.do, (1,))

    def test_drain(self):
        plain = plain_of((("put", 1, 5), ("put", 1, 6), ("put", 1, 5)), (("drain", 1),) * 3, rooms=(1, 3))
        self.stuck(plain.do, (1,))
        plain.do((0,))
        self.assertEqual(plain.do((1,)), (5,))
        self.assertEqual([plain.values_in(1), plain.able()], [[], [(0,)]])
        do_all(plain)
        self.assertEqual(plain.do((1,)), (6, 5))
        self.assertEqual([plain.values_in(0), plain.values_in(1), plain.able()], [[], [], []])
        self.assertEqual(plain.told()[(1,)], [(5,), (6, 5)])

    def test_close(self):
        plain = plain_of((("put", 0, 1), ("put", 0, 2), ("close", 0), ("put", 0, 3), ("close", 0), ("put", 0, 4)),
                         (("take", 0),) * 4, (("drain", 0),) * 2, rooms=(2, 1))
        self.assertEqual(do_all(plain), ["done", "done", "done", "closed", "done", "closed"])
        self.assertEqual(plain.values_in(0), [1, 2])
        self.assertEqual([plain.do((1,)), plain.do((2,)), plain.do((1,)), plain.do((2,))], [1, (2,), "end", "end"])
        self.assertEqual(do_all(plain, (1,)), ["end", "end"])

    def test_close_of_one_pipe_alone(self):
        plain = plain_of((("close", 0), ("take", 1)), (("put", 1, 4), ("put", 1, 4)), rooms=(1, 1))
        self.assertEqual(do_all(plain), ["done"])
        self.assertEqual([plain.able(), plain.do((1,)), plain.able()], [[(1,)], "done", [(0,)]])

    def test_each_pipe_has_its_room(self):
        plain = plain_of((("put", 0, 0),) * 5, (("put", 1, 9),) * 5, rooms=(3, 1))
        self.assertEqual([len(do_all(plain)), len(do_all(plain, (1,)))], [3, 1])
        self.assertEqual([plain.values_in(0), plain.values_in(1)], [[0, 0, 0], [9]])

    def test_processes_share_pipes(self):
        plain = plain_of((("fork", "kid", ((("take", 0),),)), ("put", 0, 3)), rooms=(1,))
        do_all(plain)
        self.assertEqual(plain.do((0, 0, 0)), 3)

    def test_no_pipe(self):
        plain = plain_of((), rooms=(1, 1))
        for thing in any_values() + truths() + [2, -1, -2, 10 ** 39, "0", (0,), [0]]:
            with self.assertRaises(NoPipe) as caught:
                plain.values_in(thing)
            self.assertIs(caught.exception.pipe, thing)
        for thing in (0, 1, None):
            with self.assertRaises(NoPipe):
                plain_of(()).values_in(thing)


class WaitTest(PlainCase):
    def family(self, names, calls=(("wait",),) * 4):
        """Return a Plain whose first process has these idle children."""
        plain = plain_of(tuple(("fork", name, IDLE) for name in names) + calls)
        for _ in names:
            plain.do((0,))
        return plain

    def test_no_child(self):
        self.assertEqual(do_all(plain_of((("wait",), ("wait",)))), ["none", "none"])

    def test_child_that_has_not_ended(self):
        plain = self.family(["kid"])
        self.assertEqual(plain.able(), [])
        self.stuck(plain.do, (0,))
        plain.end((0, 0))
        self.assertEqual(do_all(plain), ["kid", "none", "none", "none"])
        self.assertEqual(plain.there(), ["root"])

    def test_least_name_of_several(self):
        plain = self.family(["m", "z", "a", "b"])
        for k in (1, 0, 3):
            plain.end((0, k))
        self.assertEqual(do_all(plain), ["b", "m", "z"])
        self.assertEqual(plain.there(), ["a", "root"])
        plain.end((0, 2))
        self.assertEqual(do_all(plain), ["a"])

    def test_name_handed_in(self):
        for order in (["a", "b", "c"], ["c", "a", "b"], ["b", "c", "a"]):
            plain = self.family(["b", "a", "c"])
            for k in range(3):
                plain.end((0, k))
            self.assertEqual([plain.do((0,), name) for name in order], order)
            self.assertEqual(plain.do((0,), None), "none")
            self.assertEqual(plain.told()[(0,)], ["done"] * 3 + order + ["none"])

    def test_name_of_the_only_one(self):
        plain = self.family(["a", "b"])
        plain.end((0, 1))
        self.assertEqual(plain.do((0,), "b"), "b")
        self.assertEqual(plain.there(), ["a", "root"])

    def test_no_child_with_this_name(self):
        plain = self.family(["a", "b"])
        plain.end((0, 1))
        before = plain.copied()
        for name in ["a", "c", "root", "none", "B", "", ["b"], ("b",), {"b": "b"}, 0, 1] + any_values()[1:] + truths():
            with self.assertRaises(NoChild) as caught:
                plain.do((0,), name)
            self.assertIs(caught.exception.name, name)
            self.assertEqual(plain, before)
        self.assertEqual(plain.do((0,), "b"), "b")

    def test_a_wait_without_children_can_tell_no_name(self):
        plain = plain_of((("wait",),))
        for name in ("none", "root", "a", True):
            with self.assertRaises(NoChild) as caught:
                plain.do((0,), name)
            self.assertIs(caught.exception.name, name)
        self.assertEqual(plain.do((0,), None), "none")

    def test_a_name_for_calls_that_are_no_waits(self):
        for call in [("map", 0), ("drop", 0), ("read", 0, 0), ("write", 0, 0, 1), ("fork", "son", IDLE), ("put", 0, 1),
                     ("close", 0), ("send", "kid")]:
            plain = plain_of((("fork", "kid", IDLE), call), rooms=(1,))
            plain.do((0,))
            plain.end((0, 0))
            before = plain.copied()
            for name in ("kid", "root", "son", "none", False, 0, "", []):
                with self.assertRaises(NoChild) as caught:
                    plain.do((0,), name)
                self.assertIs(caught.exception.name, name)
                self.assertEqual(plain, before)
            plain.do((0,), None)
            self.assertNotEqual(plain, before)

    def test_stuck_ahead_of_no_child(self):
        plain = self.family(["kid"])
        for hand in [(0,), (0, 0, 0), (5,), "kid", None]:
            for name in ("kid", "x", []):
                with self.assertRaises(Stuck) as caught:
                    plain.do(hand, name)
                self.assertIs(caught.exception.agent, hand)

    def test_a_child_that_is_called_none(self):
        plain = self.family(["none"])
        plain.end((0, 0))
        self.assertEqual(plain.do((0,), "none"), "none")
        self.assertEqual(plain.there(), ["root"])
        self.assertEqual(plain.do((0,)), "none")

    def test_grandchildren_are_no_children(self):
        kid = ((("fork", "son", IDLE), ("take", 0)),)
        plain = plain_of((("fork", "kid", kid), ("wait",)), rooms=(1,))
        plain.do((0,))
        plain.do((0, 0, 0))
        plain.end((0, 0, 0, 0))
        self.assertEqual(plain.able(), [])
        with self.assertRaises(Stuck):
            plain.do((0,), "son")

    def test_each_hand_waits_for_the_children_of_its_process(self):
        plain = plain_of((("fork", "kid", IDLE),), (("wait",), ("wait",)))
        self.assertEqual(plain.able(), [(0,), (1,)])
        plain.do((0,))
        self.assertEqual(plain.able(), [])
        plain.end((0, 0))
        self.assertEqual(do_all(plain, (1,)), ["kid", "none"])

    def test_a_name_that_is_used_again(self):
        kid = ((("wait",),),)
        calls = (("fork", "kid", IDLE), ("wait",), ("fork", "kid", kid), ("send", "kid"), ("wait",), ("send", "kid"))
        plain = plain_of(calls)
        plain.do((0,))
        plain.end((0, 0))
        self.assertEqual([plain.do((0,)) for _ in range(3)], ["kid", "done", "done"])
        self.assertEqual([plain.breakable(), plain.able()], [[(0, 2, 0)], [(0, 2, 0)]])
        self.assertEqual([plain.there(), plain.endable()], [["kid", "root"], []])
        with self.assertRaises(NoProcess):
            plain.pages((0, 0))
        self.stuck(plain.end, (0, 0))
        plain.break_off((0, 2, 0))
        plain.end((0, 2))
        self.assertEqual(do_all(plain), ["kid", "none"])
        self.assertEqual(plain.told(), {(0,): ["done", "kid", "done", "done", "kid", "none"], (0, 0, 0): [],
                                        (0, 2, 0): ["broken"]})


class FlagTest(PlainCase):
    def test_send(self):
        plain = plain_of((("send", "kid"), ("fork", "kid", ((("take", 0),),)), ("send", "kid"), ("send", "kid")),
                         rooms=(1,))
        self.assertEqual(plain.do((0,)), "none")
        plain.do((0,))
        self.assertEqual(plain.breakable(), [])
        self.assertEqual(do_all(plain), ["done", "done"])
        self.assertEqual(plain.breakable(), [(0, 1, 0)])

    def test_send_to_one_that_has_ended(self):
        plain = plain_of((("fork", "kid", IDLE), ("send", "kid"), ("wait",), ("send", "kid")))
        plain.do((0,))
        plain.end((0, 0))
        before = plain.copied()
        self.assertEqual(plain.do((0,)), "done")
        other = plain_of((("fork", "kid", IDLE), ("send", "kid"), ("wait",), ("send", "kid")))
        other.do((0,))
        other.do((0,))
        other.end((0, 0))
        self.assertEqual(plain, other)
        self.assertNotEqual(plain, before)
        self.assertEqual(do_all(plain), ["kid", "none"])

    def test_what_can_be_broken_off(self):
        for call, wanted in [
            (("put", 0, 1), True), (("take", 0), True), (("drain", 0), True), (("wait",), True), (("close", 0), False),
            (("map", 0), False), (("drop", 0), False), (("read", 0, 0), False), (("write", 0, 0, 1), False),
            (("fork", "kid", IDLE), False), (("send", "root"), False),
        ]:
            plain = plain_of((call,), (("send", "root"),), rooms=(1,))
            self.assertEqual(plain.breakable(), [])
            self.stuck(plain.break_off, (0,))
            plain.do((1,))
            self.assertEqual(plain.breakable(), [(0,)] if wanted else [])
            if not wanted:
                self.stuck(plain.break_off, (0,))
                continue
            self.assertIsNone(plain.break_off((0,)))
            self.assertEqual([plain.told()[(0,)], plain.breakable(), plain.endable()], [["broken"], [], [()]])
            self.assertEqual([plain.values_in(0), plain.there()], [[], ["root"]])

    def test_broken_off_whether_it_can_be_done_or_not(self):
        calls = (("put", 0, 1), ("put", 0, 2), ("take", 0), ("take", 0))
        plain = plain_of(calls, (("send", "root"),) * 4, rooms=(1,))
        for able in (True, False):
            plain.do((1,))
            self.assertEqual([(0,) in plain.able(), plain.breakable()], [able, [(0,)]])
            if able:
                plain.do((0,))
                self.assertEqual(plain.breakable(), [(0,)])
        plain.break_off((0,))
        self.assertEqual([plain.breakable(), plain.values_in(0), plain.do((0,))], [[], [1], 1])
        plain.do((1,))
        plain.break_off((0,))
        self.assertEqual(plain.told()[(0,)], ["done", "broken", 1, "broken"])

    def test_one_flag_breaks_off_one_call(self):
        plain = plain_of((("take", 0),), (("drain", 0),), (("send", "root"),), rooms=(1,))
        plain.do((2,))
        self.assertEqual(plain.breakable(), [(0,), (1,)])
        plain.break_off((1,))
        self.assertEqual([plain.breakable(), plain.told()], [[], {(0,): [], (1,): ["broken"], (2,): ["done"]}])
        self.stuck(plain.break_off, (0,))

    def test_a_wait_that_is_broken_off_buries_nobody(self):
        plain = plain_of((("fork", "kid", IDLE), ("send", "root"), ("wait",), ("wait",)))
        plain.do((0,))
        plain.do((0,))
        plain.end((0, 0))
        plain.break_off((0,))
        self.assertEqual([plain.there(), plain.do((0,))], [["kid", "root"], "kid"])

    def test_flags_of_others(self):
        plain = plain_of((("fork", "kid", ((("wait",),),)), ("send", "kid"), ("wait",)))
        do_all(plain)
        self.assertEqual(plain.breakable(), [(0, 0, 0)])
        self.stuck(plain.break_off, (0,))
        plain.break_off((0, 0, 0))
        self.assertEqual(plain.breakable(), [])

    def test_hands_that_cannot_be_broken_off(self):
        plain = plain_of((("send", "root"), ("take", 0)), (), rooms=(1,))
        self.stuck(plain.break_off, (0,))
        plain.do((0,))
        before = plain.copied()
        for thing in any_values() + truths() + [(1,), (2,), (), (False,), [0], "root", (0, 0, 0), (0, 0)]:
            self.stuck(plain.break_off, thing)
        self.assertEqual(plain, before)
        plain.break_off((0,))
        self.stuck(plain.break_off, (0,))


class EndTest(PlainCase):
    def test_endable(self):
        plain = plain_of((("map", 0), ("map", 1)), (("map", 2),), ())
        for hand in [(0,), (1,), (0,)]:
            self.assertEqual(plain.endable(), [])
            self.stuck(plain.end, ())
            plain.do(hand)
        self.assertEqual(plain.endable(), [()])
        self.assertIsNone(plain.end(()))
        self.assertEqual([plain.endable(), plain.pages(()), plain.there()], [[], {}, ["root"]])
        self.stuck(plain.end, ())

    def test_hands_without_calls(self):
        self.assertEqual(plain_of(()).endable(), [()])
        self.assertEqual(plain_of((), ()).endable(), [()])
        plain = plain_of((("fork", "kid", ((), ())), ("map", 0)))
        plain.do((0,))
        self.assertEqual(plain.endable(), [(0, 0)])

    def test_pages_are_gone_and_none_of_the_others(self):
        plain = plain_of((("map", 0), ("fork", "kid", IDLE), ("wait",)))
        plain.do((0,))
        plain.do((0,))
        self.assertEqual(plain.pages((0, 1)), {0: [0, 0]})
        plain.end((0, 1))
        self.assertEqual([plain.pages((0, 1)), plain.pages(())], [{}, {0: [0, 0]}])
        self.assertEqual(plain.endable(), [])
        plain.do((0,))
        with self.assertRaises(NoProcess):
            plain.pages((0, 1))
        self.assertEqual(plain.endable(), [()])
        self.stuck(plain.end, (0, 1))

    def test_flag_is_down_and_stays_so(self):
        work = (((("fork", "kid", IDLE), ("send", "kid"), ("send", "kid")),), (), ())
        one, other = Plain(work), Plain(work)
        for plain, order in ((one, "dsed"), (other, "dsde")):
            for sign in order:
                if sign == "e":
                    plain.end((0, 0))
                else:
                    plain.do((0,))
        self.assertEqual(one.told(), other.told())
        self.assertEqual(one, other)

    def test_children_become_those_of_the_first_process(self):
        kid = ((("fork", "a", IDLE), ("fork", "b", IDLE), ("fork", "c", ((("wait",),),))),)
        plain = plain_of((("fork", "kid", kid), ("wait",), ("wait",), ("wait",), ("wait",), ("wait",)))
        plain.do((0,))
        do_all(plain, (0, 0, 0))
        plain.end((0, 0, 0, 1))
        self.assertEqual(plain.able(), [(0, 0, 2, 0)] if False else [(0, 0, 0, 2, 0)])
        plain.end((0, 0))
        self.assertEqual([plain.do((0,)), plain.do((0,)), plain.able()], ["b", "kid", [(0, 0, 0, 2, 0)]])
        plain.end((0, 0, 0, 0))
        self.assertEqual([plain.do((0,)), plain.able()], ["a", [(0, 0, 0, 2, 0)]])
        plain.do((0, 0, 0, 2, 0))
        plain.end((0, 0, 0, 2))
        self.assertEqual(do_all(plain), ["c", "none"])

    def test_children_of_the_first_process_stay(self):
        plain = plain_of((("fork", "kid", ((("map", 0),),)),))
        plain.do((0,))
        plain.end(())
        self.assertEqual([plain.there(), plain.able(), plain.endable()], [["kid", "root"], [(0, 0, 0)], []])
        plain.do((0, 0, 0))
        plain.end((0, 0))
        self.assertEqual([plain.there(), plain.endable()], [["kid", "root"], []])

    def test_a_fork_of_an_orphan(self):
        kid = ((("fork", "son", ((("fork", "grandson", IDLE), ("wait",)),)),),)
        plain = plain_of((("fork", "kid", kid), ("wait",), ("wait",), ("wait",)))
        plain.do((0,))
        plain.do((0, 0, 0))
        plain.end((0, 0))
        self.assertEqual(plain.do((0,)), "kid")
        son = (0, 0, 0, 0, 0)
        plain.do(son)
        plain.end((*son, 0))
        self.assertEqual([plain.able(), plain.do(son)], [[son], "grandson"])
        plain.end(son[:-1])
        self.assertEqual(do_all(plain), ["son", "none"])

    def test_processes_that_cannot_end(self):
        plain = plain_of((("fork", "kid", ((("map", 0),), ())), ("map", 0)))
        self.stuck(plain.end, (0, 0))
        plain.do((0,))
        before = plain.copied()
        for thing in any_values() + truths() + [(), (0, 0), (0,), (0, 1), (False, 0), (0, False), [0, 0], [], "kid", "root"]:
            self.stuck(plain.end, thing)
        self.assertEqual(plain, before)
        plain.do((0, 0, 0))
        for thing in [(False, 0), (0, False), [0, 0], "kid", (0, 0, 0)]:
            self.stuck(plain.end, thing)
        plain.end((0, 0))


class DoTest(PlainCase):
    def test_hands_that_can_do_nothing(self):
        plain = plain_of((("map", 0),), (("fork", "kid", ((("map", 0),),)),), (), (("take", 0),), rooms=(1,))
        before = plain.copied()
        near = [(1, 0, 0), (2,), (3,), (4,), (), (0, 0, 0), (0, 0), [0], [1], "0", "root", (True,), (False,), 0, 1]
        for thing in near + any_values() + truths():
            self.stuck(plain.do, thing)
        self.assertEqual(plain, before)
        plain.do((0,))
        plain.do((1,))
        for thing in [(0,), (1,), (1, 0, False), (True, 0, 0), [1, 0, 0], (1, 0, 1)]:
            self.stuck(plain.do, thing)
        self.assertEqual(plain.do((1, 0, 0)), "there")
        self.stuck(plain.do, (1, 0, 0))

    def test_able_ascends(self):
        plain = plain_of((("take", 0),), (("map", 0), ("map", 1)), (), (("fork", "kid", ((("map", 0),),)), ("map", 2)),
                         rooms=(1,))
        self.assertEqual(plain.able(), [(1,), (3,)])
        plain.do((3,))
        self.assertEqual(plain.able(), [(1,), (3,), (3, 0, 0)])


    def test_all_ascends_whatever_came_to_be_first(self):
        kid = ((("wait",),), (("take", 0),))
        plain = plain_of((("fork", "b", kid), ("send", "b"), ("wait",)), (("fork", "a", kid), ("send", "root"), ("wait",)),
                         rooms=(1,))
        for hand in [(1,), (0,), (0,), (1,)]:
            plain.do(hand)
        self.assertEqual(plain.breakable(), [(0,), (0, 0, 0), (0, 0, 1), (1,)])
        self.assertEqual(list(plain.told()), [(0,), (0, 0, 0), (0, 0, 1), (1,), (1, 0, 0), (1, 0, 1)])
        self.assertEqual(plain.able(), [(0, 0, 0), (1, 0, 0)])
        self.assertEqual(list(plain.copied().told()), list(plain.told()))

    def test_endable_ascends_whatever_was_forked_first(self):
        plain = plain_of((("fork", "b", IDLE), ("wait",)), (("fork", "a", IDLE), ("wait",)))
        plain.do((1,))
        plain.do((0,))
        self.assertEqual(plain.endable(), [(0, 0), (1, 0)])


class CopyTest(PlainCase):
    def test_copies_are_led_apart(self):
        calls = (("map", 0), ("put", 0, 1), ("fork", "kid", IDLE), ("write", 0, 0, 5), ("send", "kid"), ("put", 0, 2),
                 ("close", 0), ("put", 0, 3))
        work = ((calls,), (2,), ())
        plain = Plain(work)
        for number in range(len(calls)):
            other = plain.copied()
            self.assertIsInstance(other, Plain)
            self.assertIsNot(other, plain)
            self.assertEqual(other, plain)
            self.assertEqual(looks(other, work), looks(plain, work))
            before = copy.deepcopy(looks(plain, work))
            while other.able():
                other.do(other.able()[0])
            for process in other.endable():
                other.end(process)
            self.assertEqual(looks(plain, work), before)
            self.assertNotEqual(other, plain)
            kept = plain.copied()
            told = plain.do((0,))
            self.assertEqual(looks(kept, work), before)
            self.assertEqual(kept.do((0,)), told)
            self.assertEqual(kept, plain)

    def test_ends_and_flags_of_copies(self):
        plain = plain_of((("fork", "kid", ((("wait",),),)), ("send", "kid"), ("wait",)))
        do_all(plain)
        other = plain.copied()
        other.break_off((0, 0, 0))
        self.assertEqual([plain.breakable(), other.breakable()], [[(0, 0, 0)], []])
        third = other.copied()
        third.end((0, 0))
        self.assertEqual([other.endable(), other.able(), third.able()], [[(0, 0)], [], [(0,)]])
        third.do((0,))
        self.assertEqual([other.there(), third.there()], [["kid", "root"], ["root"]])


class EqualityTest(PlainCase):
    def test_by_works(self):
        works = [((((),), (), ())), (((), ()), (), ()), (((),), (1,), ()), (((),), (2,), ()), (((),), (), (("a", 0),))]
        for k, one in enumerate(works):
            for n, other in enumerate(works):
                self.assertIs(Plain(one) == Plain(other), k == n)
                self.assertIs(Plain(one) != Plain(other), k != n)

    def test_by_what_was_told(self):
        one = plain_of((("drop", 0),), (("drop", 0),))
        other = one.copied()
        one.do((0,))
        self.assertNotEqual(one, other)
        other.do((1,))
        self.assertNotEqual(one, other)
        other.do((0,))
        one.do((1,))
        self.assertEqual(one, other)

    def differs(self, work, first, second):
        """Lead two Plains by rows of doings to where they told the same, and hand both back."""
        made = []
        for row in (first, second):
            plain = Plain(work)
            for doing, agent in row:
                {"do": plain.do, "break": plain.break_off, "end": plain.end}[doing](agent)
            made.append(plain)
        self.assertEqual(made[0].told(), made[1].told())
        return made

    def test_by_pages(self):
        work = (((("map", 0), ("write", 0, 0, 1)), (("write", 0, 0, 2),)), (), ())
        row = [("do", (0,)), ("do", (0,)), ("do", (1,))]
        one, other = self.differs(work, row, [row[0], row[2], row[1]])
        self.assertNotEqual(one, other)
        work = (((("map", 0), ("write", 0, 0, 2)), (("write", 0, 0, 2),)), (), ())
        one, other = self.differs(work, row, [row[0], row[2], row[1]])
        self.assertEqual(one, other)

    def test_by_flags(self):
        work = (((("send", "root"), ("send", "root")), (("take", 0),)), (1,), ())
        first = [("do", (0,)), ("break", (1,)), ("do", (0,))]
        one, other = self.differs(work, first, [("do", (0,)), ("do", (0,)), ("break", (1,))])
        self.assertNotEqual(one, other)
        self.assertEqual([one.pages(()), one.able(), one.breakable(), one.endable()],
                         [other.pages(()), other.able(), other.breakable(), other.endable()])

    def test_by_ends(self):
        work = ((((),)), (), ())
        one, other = self.differs(work, [], [("end", ())])
        self.assertNotEqual(one, other)

    def test_by_parents(self):
        kid = ((("fork", "son", IDLE),),)
        work = (((("fork", "kid", kid),), (("fork", "kid", kid),)), (), ())
        plain = Plain(work)
        for hand in [(0,), (0, 0, 0)]:
            plain.do(hand)
        other = plain.copied()
        other.end((0, 0))
        self.assertEqual(plain.told(), other.told())
        self.assertNotEqual(plain, other)
        plain.end((0, 0))
        self.assertEqual(plain, other)

    def test_by_who_is_there(self):
        # The same is told, but another process with this name was buried: it was one of the other hand.
        kids = (("fork", "kid", IDLE), ("wait",))
        work = ((kids, kids), (), ())
        first = [("do", (0,)), ("end", (0, 0)), ("do", (0,)), ("do", (1,)), ("end", (1, 0)), ("do", (1,))]
        second = [("do", (1,)), ("end", (1, 0)), ("do", (1,)), ("do", (0,)), ("end", (0, 0)), ("do", (0,))]
        one, other = self.differs(work, first, second)
        self.assertEqual(one, other)
        one, other = self.differs(work, first[:5], first[:4])
        self.assertNotEqual(one, other)

    def test_by_pipes(self):
        work = (((("put", 0, 1),), (("put", 0, 2),)), (2,), ())
        one, other = self.differs(work, [("do", (0,)), ("do", (1,))], [("do", (1,)), ("do", (0,))])
        self.assertNotEqual(one, other)
        work = (((("put", 0, 1), ("drain", 0)), (("put", 1, 1), ("drain", 1))), (1, 1), ())
        row = [("do", (0,)), ("do", (1,)), ("do", (0,)), ("do", (1,))]
        one, other = self.differs(work, row, [row[1], row[0], row[3], row[2]])
        self.assertEqual(one, other)

    def test_equal_to_nothing_else(self):
        plain = plain_of(())
        for thing in any_values() + truths() + [standard(), (IDLE, (), ()), plain.told(), Plain, 0, 1]:
            self.assertIs(plain == thing, False)
            self.assertIs(thing == plain, False)
            self.assertIs(plain != thing, True)

    def test_works_that_are_equal_need_not_be_the_same(self):
        calls = [("map", 0), ("fork", "kid", tuple([tuple([])]))]
        self.assertEqual(Plain((tuple([tuple(calls)]), (), ())), plain_of((("map", 0), ("fork", "kid", ((),)))))


class ChanceTest(PlainCase):
    """Runs by chance, beside a slow machine of the test's own."""

    def compare(self, plain, slow, work):
        self.assertEqual([plain.able(), plain.breakable(), plain.endable()],
                         [slow.able(), slow.breakable(), slow.endable()])
        self.assertEqual(plain.told(), slow.all["told"])
        here = slow.here()
        self.assertEqual(plain.there(), sorted(slow.all["name"][process] for process in here))
        for process in processes_in(work):
            if process in here:
                self.assertEqual(plain.pages(process), slow.all["pages"][process])
            else:
                with self.assertRaises(NoProcess):
                    plain.pages(process)
        self.assertEqual([plain.values_in(pipe) for pipe in range(len(work[1]))], slow.all["pipes"])

    def refused(self, plain, slow, work):
        """Try all that cannot be done, behind which nothing has changed."""
        for hand in hands_in(work):
            if hand not in slow.able():
                self.stuck(plain.do, hand)
            if hand not in slow.breakable():
                self.stuck(plain.break_off, hand)
        for process in processes_in(work):
            if process not in slow.endable():
                self.stuck(plain.end, process)

    def pick(self, chance, slow):
        doings = [("do", hand) for hand in slow.able()] * 3 + [("break", hand) for hand in slow.breakable()]
        doings += [("end", process) for process in slow.endable()]
        return chance.choice(doings) if doings else None

    def lead(self, chance, plain, slow, doing):
        word, agent = doing
        if word == "break":
            slow.break_off(agent)
            self.assertIsNone(plain.break_off(agent))
        elif word == "end":
            slow.end(agent)
            self.assertIsNone(plain.end(agent))
        else:
            name = None
            if slow.next_call(agent) == ("wait",) and chance.random() < 0.5:
                ended = slow.children(slow.all["of"][agent], True)
                name = slow.all["name"][chance.choice(ended)] if ended else None
            self.assertEqual(plain.do(agent, name), slow.do(agent, name))

    def test_runs_by_chance(self):
        chance = random.Random(41)
        seen = {}
        for _ in range(250):
            work = work_by_chance(chance)
            plain, slow = Plain(work), SlowPlain(work)
            self.compare(plain, slow, work)
            while doing := self.pick(chance, slow):
                self.refused(plain, slow, work)
                kept, stood = plain.copied(), copy.deepcopy(slow.stand())
                self.lead(chance, plain, slow, doing)
                self.compare(plain, slow, work)
                self.assertIs(kept == plain, stood == slow.stand())
                for telling in plain.told()[doing[1]][-1:] if doing[0] == "do" else []:
                    seen[telling if isinstance(telling, str) else type(telling)] = True
        self.assertLessEqual({"done", "there", "none", "closed", "end", "a", "b", int, tuple}, set(seen))

    def test_equal_just_where_they_stand_alike(self):
        chance = random.Random(42)
        alike = 0
        for _ in range(120):
            work = work_by_chance(chance)
            made = []
            for _ in range(4):
                plain, slow = Plain(work), SlowPlain(work)
                for _ in range(chance.choice([2, 4, 60])):
                    doing = self.pick(chance, slow)
                    if doing:
                        self.lead(chance, plain, slow, doing)
                made.append((plain, slow.stand()))
            for one, stood in made:
                for other, other_stood in made:
                    self.assertIs(one == other, stood == other_stood)
                    alike += one is not other and stood == other_stood
        self.assertGreater(alike, 100)


if __name__ == "__main__":
    unittest.main()
