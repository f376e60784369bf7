"""Kinds [21], with the definitions of [2]."""

import copy
import unittest

from belowall import kinds
from tests.anyvalues import any_values, deep, deep_tuple, truths

QUESTIONS = [
    kinds.is_integer, kinds.is_name, kinds.is_call, kinds.are_hands, kinds.is_work, kinds.is_agent, kinds.is_schedule,
]

CALLS = [
    ("map", 0), ("drop", 3), ("read", 0, 0), ("read", 5, 1), ("write", 0, 1, 7), ("write", 10 ** 39, 0, 0),
    ("fork", "kid", ((),)), ("fork", "root", ((("wait",),), ())), ("put", 0, 0), ("put", 1, 10 ** 39), ("take", 0),
    ("drain", 1), ("close", 0), ("wait",), ("send", "root"), ("send", "abcdefgh"),
]

NO_CALLS = [
    (), ("wait", 0), ("wait", None), ("wait"), ["wait"], ["map", 0], ("map",), ("map", 0, 0), ("map", -1),
    ("map", True), ("map", False), ("map", "0"), ("map", None), ("map", (0,)), ("Map", 0), ("maps", 0), ("open", 0),
    ("", 0), (0, "map"), (None, 0), (("map",), 0), (["map"], 0), ({}, 0), ("drop",), ("drop", -1), ("drop", True),
    ("drop", 0, 0), ("read", 0), ("read", 0, 2), ("read", 0, -1), ("read", 0, True), ("read", 0, False),
    ("read", True, 0), ("read", -1, 0), ("read", 0, 0, 0), ("read", 0, None), ("read", 0, "0"), ("write", 0, 0),
    ("write", 0, 2, 0), ("write", 0, -1, 0), ("write", 0, True, 0), ("write", 0, 0, True), ("write", 0, 0, -1),
    ("write", False, 0, 0), ("write", -1, 0, 0), ("write", 0, 0, 0, 0), ("write", 0, 0, "7"), ("write", 0, 0, [7]),
    ("fork", "kid"), ("fork", "kid", ()), ("fork", "kid", []), ("fork", "kid", [()]), ("fork", "kid", ([],)),
    ("fork", "", ((),)), ("fork", "ninechars", ((),)), ("fork", "Kid", ((),)), ("fork", "kid ", ((),)),
    ("fork", "kid", ((),), 0), ("fork", None, ((),)), ("fork", 0, ((),)), ("fork", ("kid",), ((),)),
    ("fork", "kid", ("wait",)), ("fork", "kid", ((("wait",), 0),)), ("fork", "kid", ((["wait"],),)),
    ("fork", "kid", ((("fork", "a", ()),),)), ("fork", "kid", ((("fork", "a", ((("read", 0, 2),),)),),)),
    ("fork", "kid", None), ("fork", "kid", True), ("put", 0), ("put", 0, -1), ("put", -1, 0), ("put", 0, True),
    ("put", False, 0), ("put", 0, 0, 0), ("take",), ("take", -1), ("take", True), ("take", 0, 0), ("take", None),
    ("drain",), ("drain", -1), ("drain", False), ("drain", 0, 0), ("close",), ("close", -1), ("close", True),
    ("close", 0, 0), ("close", "0"), ("send",), ("send", ""), ("send", "Root"), ("send", "ninechars"), ("send", 0),
    ("send", "root", 0), ("send", ("root",)), ("send", None), ("send", ["root"]), (("wait",),),
]


def forked(call, times=3):
    """Return hands that fork hands, so often, the last ones with this call."""
    hands = ((call,),)
    for k in range(times):
        hands = ((), (("wait",), ("fork", "abc"[k], hands)))
    return hands


def work_of(call, rooms=(), outs=()):
    return (((call,),), rooms, outs)


NO_WORKS = [
    (), ((((),)), ()), (((),), ()), (((),), (), (), ()), [((),), (), ()], ([()], (), ()), (((),), [], ()),
    (((),), (), []), ((), (), ()), (((),), (0,), ()), (((),), (-1,), ()), (((),), (True,), ()), (((),), (1, False), ()),
    (((),), (1, "1"), ()), (((),), (None,), ()), (((),), 1, ()), (((),), None, ()), (((),), (), None),
    (((),), (), ("root", 0)), (((),), (), (["root", 0],)), (((),), (), (("root",),)), (((),), (), (("root", -1),)),
    (((),), (), (("root", True),)), (((),), (), (("Root", 0),)), (((),), (), (("", 0),)), (((),), (), ((0, "root"),)),
    (((),), (), (("root", 0, 0),)), (((),), (), (("root", 0), None)), (((),), (), (("ninechars", 0),)),
    ([()], (), ()), (((), []), (), ()), ((((),),), (), ()), (None, (), ()), (True, (), ()),
]


class KindsTest(unittest.TestCase):
    def check(self, question, things, wanted):
        for thing in things:
            with self.subTest(question=question.__name__, thing=repr(thing)[:200]):
                self.assertIs(question(thing), wanted)

    def test_integers(self):
        self.check(kinds.is_integer, [0, 1, -1, 7, 10 ** 39, -(10 ** 39)], True)
        self.check(kinds.is_integer, [True, False, None, "", "0", (), (0,), [0], {}, {0: 0}, deep(0)], False)

    def test_names(self):
        self.check(kinds.is_name, ["a", "z", "root", "abcdefgh", "zzzzzzzz", "none"], True)
        self.check(kinds.is_name, [
            "", "abcdefghi", "A", "Root", "roOt", "a b", " a", "a ", "a\n", "\n", "a1", "1", "a_b", "-", "`", "{", "@",
            "a" * 3000, 0, True, None, ("a",), ["a"], {"a": "a"}, (), [],
        ], False)

    def test_calls(self):
        self.check(kinds.is_call, CALLS, True)
        self.check(kinds.is_call, NO_CALLS, False)

    def test_calls_of_every_word_count_their_parts(self):
        for call in CALLS:
            self.check(kinds.is_call, [call[:k] for k in range(len(call))], False)
            self.check(kinds.is_call, [(*call, 0), (*call, None), (call,), list(call)], False)

    def test_hands(self):
        good = [((),), ((), ()), (tuple(CALLS),), tuple((call,) for call in CALLS), ((), tuple(CALLS), ())]
        self.check(kinds.are_hands, good + [forked(call) for call in CALLS], True)
        self.check(kinds.are_hands, [(), [], [()], ([],), ((), []), ((), None), (0,), ("wait",), (("wait",),), None], False)
        for call in NO_CALLS:
            self.check(kinds.are_hands, [((call,),), ((), (("wait",), call)), forked(call, 1), forked(call)], False)

    def test_many_hands_and_many_calls(self):
        self.check(kinds.are_hands, [((),) * 3000, ((("wait",),) * 1400,), forked(("wait",), 3) + ((),) * 2000], True)
        self.check(kinds.are_hands, [((),) * 2999 + ([],), ((("wait",),) * 1400 + (("wait", 0),),)], False)

    def test_forks_as_deep_as_values_may_be(self):
        for times in range(7):
            hands = ((("wait",),),)
            wrong = ((("wait",), ()),)
            for _ in range(times):
                hands = ((("fork", "kid", hands),),)
                wrong = ((("fork", "kid", wrong),),)
            self.check(kinds.are_hands, [hands], True)
            self.check(kinds.are_hands, [wrong], False)
            self.check(kinds.is_call, [("fork", "kid", hands)], True)
            self.check(kinds.is_call, [("fork", "kid", wrong)], False)
            self.check(kinds.is_work, [(hands, (), ())], True)
            self.check(kinds.is_work, [(wrong, (), ())], False)

    def test_works(self):
        self.check(kinds.is_work, [
            (((),), (), ()), (((), ()), (1,), ()), (((),), (1, 3, 10 ** 39), (("root", 0), ("root", 0), ("kid", 9))),
            (((),), (), (("nobody", 0),)), ((tuple(CALLS),), (1, 1), ()), (forked(("send", "x")), (), ()),
        ], True)
        self.check(kinds.is_work, NO_WORKS, False)
        for call in NO_CALLS:
            self.check(kinds.is_work, [work_of(call, (1, 1)), (forked(call), (1, 1), ())], False)

    def test_pipes_are_among_the_rooms(self):
        for word in ("put", "take", "drain", "close"):
            for pipe in range(3):
                call = (word, pipe, 0) if word == "put" else (word, pipe)
                for many in range(4):
                    rooms = (1,) * many
                    self.check(kinds.is_work, [work_of(call, rooms), (forked(call, 1), rooms, ()),
                                               (forked(call), rooms, ())], pipe < many)

    def test_pages_and_values_are_no_pipes(self):
        for call in [("map", 5), ("drop", 5), ("read", 5, 1), ("write", 5, 1, 5), ("wait",), ("send", "kid")]:
            self.check(kinds.is_work, [work_of(call), (forked(call), (), ())], True)
        self.check(kinds.is_work, [work_of(("put", 0, 5), (1,))], True)

    def test_agents(self):
        self.check(kinds.is_agent, [(), (0,), (1,), (10 ** 39,), (0, 0, 0), (1, 3, 0), (1, 2, 3, 4, 5), (0,) * 2999],
                   True)
        self.check(kinds.is_agent, [
            (0, 0), (1, 2, 3, 4), (0,) * 3000, (-1,), (0, -1, 0), (True,), (False,), (0, True, 0), (None,), ("0",),
            ((0,),), ([0],), [0], [], "", "0", 0, None, True, {}, {0: 0}, deep_tuple(0), deep_tuple(()),
        ], False)

    def test_schedules(self):
        self.check(kinds.is_schedule, [
            [], [()], [(0,)], [(), (0,), (0, 1, 2), ()], [(0,)] * 1500, [(0,) * 2999],
        ], True)
        self.check(kinds.is_schedule, [
            (), ((0,),), ((),), [0], [[0]], [[]], [(0, 0)], [(0,), (0, 0)], [(True,)], [(0,), None], [(-1,)], ["0"],
            "", None, True, 0, {}, {(0,): (0,)}, [(0,)] * 1499 + [(False,)],
        ], False)

    def test_values_of_quite_another_kind(self):
        agents = [()]
        for thing in any_values() + truths():
            with self.subTest(thing=repr(thing)[:100]):
                self.assertIs(kinds.is_call(thing), False)
                self.assertIs(kinds.is_work(thing), False)
                self.assertIs(kinds.is_integer(thing), isinstance(thing, int) and not isinstance(thing, bool))
                self.assertIs(kinds.is_name(thing), thing == "no")
                self.assertIs(kinds.are_hands(thing), thing == ((),))
                self.assertIs(kinds.is_agent(thing), thing in [(99,), (0, 99, 0)] or thing == tuple(range(2999)))
                self.assertIs(kinds.is_schedule(thing), thing in [[], agents, [(0,)]])

    def test_what_is_asked_stays(self):
        things = any_values()[:-3] + CALLS + NO_CALLS + NO_WORKS + [forked(("wait",)), [(0,), (0, 1, 0)]]
        kept = copy.deepcopy(things)
        for question in QUESTIONS:
            for thing in things:
                question(thing)
        self.assertEqual(repr(things), repr(kept))

    def test_objects_of_the_package_that_are_asked(self):
        for question in QUESTIONS:
            self.assertIs(question(kinds), False)
            self.assertIs(question(kinds.is_work), False)


class AloneTest(unittest.TestCase):
    def test_one_hand_each(self):
        for hands in [((),), ((("map", 0),),), ((("fork", "kid", ((("fork", "son", ((),)),),)),),)]:
            self.assertIs(kinds.is_alone((hands, (), ())), True)
        two = (("fork", "a", ((),)), ("wait",), ("fork", "b", ((("wait",),),)))
        self.assertIs(kinds.is_alone(((two,), (1,), (("a", 0),))), True)

    def test_two_at_the_first_process(self):
        for hands in [((), ()), ((("fork", "kid", ((),)),), ()), ((), (), ())]:
            self.assertIs(kinds.is_alone((hands, (), ())), False)

    def test_two_at_a_forked_one_only(self):
        two = ((), ())
        for hands in [two, ((("fork", "son", two),),), ((("fork", "a", ((),)), ("fork", "b", two)),)]:
            self.assertIs(kinds.is_alone((((("fork", "kid", hands),),), (), ())), False)


if __name__ == "__main__":
    unittest.main()
