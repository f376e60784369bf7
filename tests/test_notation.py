"""Notation [100]."""

import copy
import random
import unittest

from belowall import notation as module
from belowall.notation import show_agent, show_call, show_hands, show_plan, show_schedule, show_work
from belowall.plans import Plan, standard
from tests.leading import plan_by_chance
from tests.works import draw

STANDARD_TEXT = """lock each
await join try heed
close seal wake
copy shut flush fill put lower
drop shut flush lower
exit adopt rouse end wake
fetch load put leave
fork mark flush raise start
map wipe put
out shut flush save lower
send post rouse
wake close all
wake drain all
wake put all
wake take all
left no
passes no
"""

OTHER_TEXT = """lock all
await heed try join
close wake seal
copy put fill flush shut
drop flush shut
exit adopt rouse end wake
fetch put load
fork start raise flush mark
map put wipe
out shut flush save
send rouse post
wake close none
wake drain one
wake put all
wake take one
left yes
passes yes
"""

OTHER_PLAN = Plan("all", {
    "await": ("heed", "try", "join"), "close": ("wake", "seal"), "copy": ("put", "fill", "flush", "shut"),
    "drop": ("flush", "shut"), "fetch": ("put", "load"), "fork": ("start", "raise", "flush", "mark"),
    "map": ("put", "wipe"), "out": ("shut", "flush", "save"), "send": ("rouse", "post"),
}, {"close": "none", "drain": "one", "take": "one"}, True, True)

BIG = 10 ** 39 + 7

CALLS = [
    (("map", 0), "map 0"), (("drop", 12), "drop 12"), (("read", 3, 1), "read 3 1"), (("write", 0, 1, 70), "write 0 1 70"),
    (("put", 1, 0), "put 1 0"), (("take", 0), "take 0"), (("drain", 2), "drain 2"), (("close", 0), "close 0"),
    (("wait",), "wait"), (("send", "kid"), "send kid"), (("write", BIG, 0, BIG), f"write {BIG} 0 {BIG}"),
    (("fork", "kid", ((),)), "fork kid (idle)"), (("fork", "idle", ((), ())), "fork idle (idle | idle)"),
    (("send", "none"), "send none"), (("send", "idle"), "send idle"),
    (("fork", "a", ((("map", 0), ("wait",)), (), (("take", 1),))), "fork a (map 0; wait | idle | take 1)"),
    (("fork", "abcdefgh", ((("fork", "b", ((("fork", "c", ((("wait",),),)),), (("wait",),))), ("map", 1)),)),
     "fork abcdefgh (fork b (fork c (wait) | wait); map 1)"),
]

WORKS = [
    ((((),), (), ()), "hands (idle)\nrooms\nouts\n"),
    ((((("map", 0), ("put", 1, 5)), (("take", 0),)), (1, 3), (("root", 0), ("kid", 12))),
     "hands (map 0; put 1 5 | take 0)\nrooms 1 3\nouts root:0 kid:12\n"),
    ((((("fork", "a", ((), (("fork", "b", ((("wait",),),)),))), ("wait",)),), (BIG,), ()),
     f"hands (fork a (idle | fork b (wait)); wait)\nrooms {BIG}\nouts\n"),
]

AGENTS = [((), "-"), ((0,), "0"), ((1, 3, 0), "1.3.0"), ((10, 0, 2, 7, 30), "10.0.2.7.30"), ((BIG,), str(BIG))]

SCHEDULES = [([], "none"), ([()], "-"), ([(0,)], "0"), ([(0,), (), (1, 3, 0), (0,)], "0 - 1.3.0 0"), ([(), ()], "- -")]


class NotationTest(unittest.TestCase):
    def test_functions_stand_in_the_file(self):
        for function in (show_call, show_hands, show_work, show_agent, show_schedule, show_plan):
            self.assertEqual(function.__module__, module.__name__)

    def check(self, show, rows):
        for thing, text in rows:
            given = copy.deepcopy(thing)
            self.assertEqual(show(thing), text)
            self.assertEqual(thing, given)

    def test_calls(self):
        self.check(show_call, CALLS)
        self.assertEqual({call[0] for call, _ in CALLS}, {
            "map", "drop", "read", "write", "fork", "put", "take", "drain", "close", "wait", "send"})

    def test_hands(self):
        for call, text in CALLS:
            self.check(show_hands, [
                (((call,),), f"({text})"), (((call, ("wait",)),), f"({text}; wait)"),
                (((), (call,)), f"(idle | {text})"), (((call, call), (call,), ()), f"({text}; {text} | {text} | idle)"),
            ])
        self.check(show_hands, [(((),), "(idle)"), (((), (), ()), "(idle | idle | idle)")])

    def test_works(self):
        self.check(show_work, WORKS)

    def test_agents_and_schedules(self):
        self.check(show_agent, AGENTS)
        self.check(show_schedule, SCHEDULES)

    def test_plans(self):
        self.assertEqual(show_plan(standard()), STANDARD_TEXT)
        self.assertEqual(show_plan(OTHER_PLAN), OTHER_TEXT)

    def test_plans_by_chance(self):
        for seed in range(50):
            plan = plan_by_chance(random.Random(seed))
            lines = show_plan(plan).split("\n")
            self.assertEqual(len(lines), 18)
            for deed, line in zip(plan.orders(), lines[1:]):
                self.assertEqual(line.split(" "), [deed, *plan.order(deed)])
            self.assertEqual(lines[11:15], [f"wake {word} {plan.wake(word)}" for word in ("close", "drain", "put", "take")])
            self.assertEqual([lines[0], lines[15], lines[16], lines[17]], [
                f"lock {plan.lock}", "left " + ["no", "yes"][plan.left], "passes " + ["no", "yes"][plan.passes], ""])

    def test_unlike_works_have_unlike_texts(self):
        texts = {}
        for seed in range(300):
            work = draw(random.Random(seed))
            text = show_work(work)
            self.assertEqual(texts.setdefault(text, work), work)
            self.assertEqual(text.count("\n"), 3)
            self.assertNotIn("  ", text)


if __name__ == "__main__":
    unittest.main()
