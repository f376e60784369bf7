"""Works [22]."""

import unittest

from belowall import works
from belowall.errors import NoHand, NoProcess
from tests.anyvalues import any_values, truths

GRANDSON = ((("drop", 8), ("send", "nobody")), ())
SON = ((("fork", "grandson", GRANDSON), ("fork", "root", ((),))),)
KID = ((), (("read", 4, 0), ("fork", "son", SON)))
WORK = (
    (
        (("map", 3), ("fork", "kid", KID), ("write", 1, 0, 99)),
        (),
        (("wait",), ("put", 0, 50), ("fork", "kid", ((("map", 3),),)), ("send", "kid")),
    ),
    (2,),
    (("kid", 7), ("stranger", 3), ("stranger", 0)),
)
HANDS = {
    (0,): WORK[0][0],
    (0, 1, 0): (),
    (0, 1, 1): KID[1],
    (0, 1, 1, 1, 0): SON[0],
    (0, 1, 1, 1, 0, 0, 0): GRANDSON[0],
    (0, 1, 1, 1, 0, 0, 1): (),
    (0, 1, 1, 1, 0, 1, 0): (),
    (1,): (),
    (2,): WORK[0][2],
    (2, 2, 0): (("map", 3),),
}
PROCESSES = {
    (): "root",
    (0, 1): "kid",
    (0, 1, 1, 1): "son",
    (0, 1, 1, 1, 0, 0): "grandson",
    (0, 1, 1, 1, 0, 1): "root",
    (2, 2): "kid",
}
LEAST = (((),), (), ())


class WorksTest(unittest.TestCase):
    def test_hands(self):
        self.assertEqual(works.hands_in(WORK), list(HANDS))
        self.assertEqual(works.hands_in(LEAST), [(0,)])
        self.assertEqual(works.hands_in((((), (), ()), (), ())), [(0,), (1,), (2,)])

    def test_hands_ascend_beyond_nine(self):
        calls = tuple(("fork", "kid", ((), ())) for _ in range(12))
        hands = works.hands_in((((), calls), (), ()))
        self.assertEqual(hands, [(0,), (1,)] + [(1, k, m) for k in range(12) for m in range(2)])

    def test_processes(self):
        self.assertEqual(works.processes_in(WORK), list(PROCESSES))
        self.assertEqual(works.processes_in(LEAST), [()])

    def test_calls(self):
        for hand, calls in HANDS.items():
            self.assertEqual(works.calls_of(WORK, hand), calls)
            self.assertIsInstance(works.calls_of(WORK, hand), tuple)

    def test_names_of_processes(self):
        for process, name in PROCESSES.items():
            self.assertEqual(works.name_of(WORK, process), name)
        self.assertEqual(works.name_of(LEAST, ()), "root")

    def test_no_hand(self):
        near = [(3,), (0, 0, 0), (0, 1, 2), (0, 1), (), (0, 1, 0, 0, 0), (2, 2, 1), (0, 1, 1, 1, 0, 2, 0), (2, 2)]
        near += [[0], (True,), (False,), (0, True, 0), (0, 1, True), (0, 1, False), [0, 1, 0], "0.1.0", "root", 0]
        for hand in near + any_values() + truths():
            with self.assertRaises(NoHand) as caught:
                works.calls_of(WORK, hand)
            self.assertIs(caught.exception.hand, hand)

    def test_no_process(self):
        near = [(0,), (0, 0), (1, 0), (2, 1), (2, 3), (0, 1, 0, 0), (0, 1, 1, 0), (0, 1, 1, 1, 0, 2), (0, 1, 1)]
        near += [[], [0, 1], (0, True), (False, 1), (2, 2.5), "", "root", "kid", 0]
        for process in near + any_values() + truths():
            with self.assertRaises(NoProcess) as caught:
                works.name_of(WORK, process)
            self.assertIs(caught.exception.process, process)

    def test_pages(self):
        self.assertEqual(works.pages_in(WORK), [0, 1, 3, 4, 7, 8])
        self.assertEqual(works.pages_in(LEAST), [])
        for call in [("map", 12), ("drop", 12), ("read", 12, 0), ("write", 12, 1, 5)]:
            kid = (("fork", "kid", ((call,),)),)
            self.assertEqual(works.pages_in((((call,),), (), ())), [12])
            self.assertEqual(works.pages_in(((kid,), (1,), (("root", 2),))), [2, 12])

    def test_no_pages_are_pipes_and_values(self):
        calls = (("put", 0, 6), ("take", 0), ("drain", 0), ("close", 0), ("wait",), ("send", "a"))
        self.assertEqual(works.pages_in(((calls,), (1,), ())), [])

    def test_names(self):
        self.assertEqual(works.names_in(WORK), ["grandson", "kid", "nobody", "root", "son", "stranger"])
        self.assertEqual(works.names_in(LEAST), ["root"])
        self.assertEqual(works.names_in((((("send", "zoe"),),), (), (("amy", 0),))), ["amy", "root", "zoe"])
        self.assertEqual(works.names_in((((("fork", "kid", ((("send", "z"),),)),),), (), ())), ["kid", "root", "z"])

    def test_lists_are_new_each_time(self):
        for told in (works.hands_in, works.processes_in, works.pages_in, works.names_in):
            first = told(WORK)
            kept = list(first)
            self.assertEqual(first, sorted(first))
            first.append(None)
            first.reverse()
            self.assertIsInstance(first, list)
            self.assertEqual(told(WORK), kept)


if __name__ == "__main__":
    unittest.main()
