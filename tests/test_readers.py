"""Readers [101]."""

import random
import time
import unittest

from belowall import readers as module
from belowall.errors import NoText
from belowall.kinds import are_hands, is_agent, is_call, is_schedule, is_work
from belowall.notation import show_agent, show_call, show_hands, show_plan, show_schedule, show_work
from belowall.plans import Plan, standard
from belowall.readers import read_agent, read_call, read_hands, read_plan, read_schedule, read_work
from tests.leading import plan_by_chance, schedule_by_chance
from tests.slowreaders import NoWriting, slow_agent, slow_call, slow_hands, slow_plan, slow_schedule, slow_work
from tests.test_notation import AGENTS, BIG, CALLS, OTHER_PLAN, OTHER_TEXT, SCHEDULES, STANDARD_TEXT, WORKS
from tests.works import draw

SORTS = {
    "call": (read_call, show_call, slow_call, is_call), "hands": (read_hands, show_hands, slow_hands, are_hands),
    "work": (read_work, show_work, slow_work, is_work), "agent": (read_agent, show_agent, slow_agent, is_agent),
    "schedule": (read_schedule, show_schedule, slow_schedule, is_schedule),
    "plan": (read_plan, show_plan, slow_plan, lambda thing: isinstance(thing, Plan)),
}

SIGNS = ["", " ", "  ", "\n", "(", ")", ";", "|", ".", ":", "-", "+", "_", "0", "00", "1", "9", "a", "z", "A", "~", "'", ","]


class ReadCase(unittest.TestCase):
    def check(self, sort, text):
        """Check that a text is read as what it writes, and return whether it writes something."""
        read, show, slow, is_right = SORTS[sort]
        try:
            expected = slow(text)
        except NoWriting:
            with self.assertRaises(NoText, msg=(sort, text)) as caught:
                read(text)
            self.assertIs(type(caught.exception), NoText)
            return False
        found = read(text)
        self.assertEqual(found, expected)
        # The sorts, too: no truth in the place of an integer, no list in the place of a tuple.
        self.assertIs(type(found), type(expected))
        if sort != "plan":
            self.assertEqual(repr(found), repr(expected))
        self.assertTrue(is_right(found))
        self.assertEqual(show(found), text)
        return True

    def all_ways(self, text):
        """Return a text with each sign, each word and each line out, twice, or otherwise."""
        for at in range(len(text) + 1):
            for sign in SIGNS:
                yield text[:at] + sign + text[at:]
                yield text[:at] + sign + text[at + 1:]
            yield text[:at]
        for blank in (" ", "\n", "; ", " | ", "."):
            words = text.split(blank)
            for at in range(len(words)):
                yield blank.join(words[:at] + words[at + 1:])
                yield blank.join(words[:at] + words[at:at + 1] * 2 + words[at + 1:])
                for by in range(len(words)):
                    other = list(words)
                    other[at], other[by] = other[by], other[at]
                    yield blank.join(other)


class ReadTest(ReadCase):
    def test_functions_stand_in_the_file(self):
        for read, _, _, _ in SORTS.values():
            self.assertEqual(read.__module__, module.__name__)

    def test_what_is_written_out(self):
        for sort, rows in [("call", CALLS), ("work", WORKS), ("agent", AGENTS), ("schedule", SCHEDULES),
                           ("hands", [(((call,), ()), f"({text} | idle)") for call, text in CALLS]),
                           ("plan", [(standard(), STANDARD_TEXT), (OTHER_PLAN, OTHER_TEXT)])]:
            for thing, text in rows:
                self.assertTrue(self.check(sort, text), text)
                self.assertEqual(SORTS[sort][0](text), thing)

    def test_what_is_shown_is_read_as_it_was(self):
        for seed in range(300):
            chance = random.Random(seed)
            work, plan = draw(chance), plan_by_chance(chance)
            for sort, thing in [("work", work), ("hands", work[0]), ("plan", plan),
                                ("schedule", schedule_by_chance(chance, work, chance.randrange(160)))]:
                read, show = SORTS[sort][:2]
                self.assertEqual(read(show(thing)), thing)
            for call in [call for calls in work[0] for call in calls]:
                self.assertEqual(read_call(show_call(call)), call)

    def test_texts_of_one_kind_read_as_another(self):
        texts = [text for rows in (CALLS, WORKS, AGENTS, SCHEDULES) for _, text in rows]
        texts += [f"({text})" for _, text in CALLS] + [STANDARD_TEXT, OTHER_TEXT, "", "idle", "none", "-", "plan", "\n"]
        many = 0
        for text in texts:
            many += sum(self.check(sort, text) for sort in SORTS)
        # Texts of agents are those of schedules, too; so are two that are both.
        self.assertEqual(many, len(texts) - 5 + 1 + 1 + len(AGENTS) + 2)

    def test_lists_are_new(self):
        read_schedule("0 1").clear()
        self.assertEqual(read_schedule("0 1"), [(0,), (1,)])


class WrongTextTest(ReadCase):
    def check_ways(self, sort, text):
        """Check all ways in which one thing of a text is otherwise, and return how many of them write something."""
        return sum(self.check(sort, other) for other in self.all_ways(text))

    def test_calls(self):
        for _, text in CALLS:
            if len(text) < 60:
                self.assertGreater(self.check_ways("call", text), 0)

    def test_hands(self):
        for text in ["(idle)", "(idle | map 0)", "(map 0; fork kid (idle | take 1; wait); send b | idle)"]:
            self.assertGreater(self.check_ways("hands", text), 0)

    def test_works(self):
        for text in ["hands (put 0 1 | take 1)\nrooms 1 2\nouts root:0 a:1\n", "hands (idle)\nrooms\nouts\n"]:
            self.assertGreater(self.check_ways("work", text), 0)

    def test_agents_and_schedules(self):
        for text in ["-", "0", "1.3.0", "10.0.2"]:
            self.assertGreater(self.check_ways("agent", text), 0)
        for text in ["none", "-", "0 - 1.3.0", "0"]:
            self.assertGreater(self.check_ways("schedule", text), 0)

    def test_plans(self):
        lines = OTHER_TEXT.split("\n")
        for other in self.all_ways(OTHER_TEXT[:60]):
            self.check("plan", other + OTHER_TEXT[60:])
        for at, line in enumerate(lines):
            for other in [line + " ", " " + line, line + "s", line.replace(" ", "  "), line[:-1], "", line.upper(),
                          line.replace("yes", "no"), line.replace("yes", "True"), line.replace("one", "none"),
                          " ".join(line.split(" ")[::-1]), line + "\n", line + "\n" + line, line + " lower",
                          line + " leave", " ".join(line.split(" ")[:-1]), line.replace("all", "each")]:
                self.check("plan", "\n".join(lines[:at] + [other] + lines[at + 1:]))
            for by in range(len(lines)):
                moved = list(lines)
                moved.insert(by, moved.pop(at))
                self.check("plan", "\n".join(moved))
        self.assertTrue(self.check("plan", OTHER_TEXT.replace("left yes", "left no")))
        self.assertFalse(self.check("plan", STANDARD_TEXT.replace(" lower", "").replace(" start", "")))
        self.assertTrue(self.check("plan", STANDARD_TEXT.replace(" lower", "").replace(" leave", "")))

    def test_pipes_that_are_not_among_the_rooms(self):
        for text in ["hands (put 0 1)\nrooms\nouts\n", "hands (take 1)\nrooms 4\nouts\n",
                     "hands (fork a (fork b (idle | drain 2)))\nrooms 1 1\nouts\n", "hands (idle)\nrooms 0\nouts\n"]:
            self.assertFalse(self.check("work", text))
        self.assertTrue(self.check("work", "hands (fork a (fork b (idle | drain 2)))\nrooms 1 1 1\nouts\n"))

    def test_hands_of_no_calls(self):
        for text in ["()", "( )", "(;)", "(|)", "( | )", "(idle; idle)", "(map 0; idle)", "(map 0; )", "(; map 0)",
                     "(map 0 | )", "(idle 0)", "(idle;)", "idle", "(fork a ())", "(fork a)", "(fork a idle)",
                     "(fork a ((idle)))", "((idle))", "(idle) (idle)", "(idle) | (idle)", "(idle)(idle)", "(idle", "idle)",
                     "(fork a (idle) (idle))", "(fork (idle) a)", "(wait idle)", "(fork a (idle)", "(fork a (idle)))"]:
            self.assertFalse(self.check("hands", text), text)

    def test_numbers(self):
        for word in ["00", "01", "+1", "-1", "-0", "1_0", "1.0", "0x1", "1e3", "", "one", "True", "1 ", "\n1", "1\n"]:
            for sort, text in [("call", f"map {word}"), ("call", f"put 0 {word}"), ("agent", f"{word}"),
                               ("agent", f"0.{word}.0"), ("schedule", f"0 {word}"), ("call", f"read 0 {word}")]:
                self.assertFalse(self.check(sort, text), (sort, text))
        self.assertFalse(self.check("call", "read 0 2"))
        self.assertTrue(self.check("call", f"write {BIG} 1 {BIG}"))
        self.assertTrue(self.check("agent", f"{BIG}.{BIG}.0"))

    def test_digits_of_other_scripts(self):
        for word in ["\u0663", "\u00b2", "\uff11"]:
            with self.assertRaises(NoText):
                read_call("map " + word)
            with self.assertRaises(NoText):
                read_agent(word)

    def test_names(self):
        for name in ["", "A", "abcdefghi", "a1", "1", "a_b", "-", "a b", "a.b", "a:b", "\u00e4"]:
            for text in (f"send {name}", f"fork {name} (idle)"):
                with self.assertRaises(NoText, msg=text):
                    read_call(text)
            with self.assertRaises(NoText):
                read_work(f"hands (idle)\nrooms\nouts {name}:0\n")
        for name in ["a", "abcdefgh", "fork", "idle", "none", "yes"]:
            self.assertTrue(self.check("call", f"send {name}"))
            self.assertTrue(self.check("work", f"hands (fork {name} (idle))\nrooms\nouts {name}:0\n"))

    def test_parentheses_in_each_other(self):
        text = "wait"
        for many in range(1, 11):
            text = f"fork a ({text})"
            self.assertTrue(self.check("call", text))
            for other in [text + ")", "(" + text, text[:-1], text.replace(")", "", 1), text.replace("(", "((", 1),
                          text.replace("(", "", 1), text.replace(")", "))", 1), "(" + text + ")"]:
                self.assertFalse(self.check("call", other))
        self.assertTrue(self.check("hands", f"({text[8:-1]})"))
        for text in ["(" * 3000, ")" * 3000, "(" * 1500 + ")" * 1500, "()" * 1500, "fork a (" * 300, "(;" * 900]:
            for sort in SORTS:
                self.assertFalse(self.check(sort, text))

    def test_long_texts(self):
        begun = time.process_time()
        calls = "; ".join(["put 0 1"] * 320)
        for text in [f"({calls})", f"({calls[:1400]} | {calls[:1376]})"]:
            self.assertLess(len(text), 3001)
            self.check("hands", text)
            self.check("work", f"hands {text}\nrooms 1\nouts\n")
        for text in ["0 " * 1499 + "0", " ".join(["1.2.3"] * 500), "0" * 3000, " " * 3000, "\n" * 3000, "a" * 3000, "- " * 1500,
                     "; " * 1500, "x\n" * 1500, "~" * 3000, "hands (" + "idle | " * 400 + "idle)\nrooms\nouts\n"]:
            for sort in SORTS:
                self.check(sort, text)
        self.assertTrue(self.check("schedule", " ".join(["1.2.3"] * 160)))
        self.assertLess(time.process_time() - begun, 5)

    def test_texts_by_chance(self):
        words = ["map", "fork", "a", "0", "1", "(", ")", ";", "|", " ", " ", " ", "wait", "idle", "\n", "; ", " | ", ".", "-"]
        for seed in range(3000):
            chance = random.Random(seed)
            text = "".join(chance.choice(words) for _ in range(chance.randrange(12)))
            for sort in SORTS:
                self.check(sort, text)


if __name__ == "__main__":
    unittest.main()
