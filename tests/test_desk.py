"""The desk [111]."""

import random
import unittest

from belowall import desk as module
from belowall.book import Book
from belowall.desk import Desk
from belowall.errors import KernelError, NoCommand, NoHand, Wrong
from belowall.facts import facts
from belowall.likeness import is_like
from belowall.lost import is_lost
from belowall.notation import show_agent, show_plan, show_schedule
from belowall.plans import standard
from belowall.readers import read_work
from tests.anyvalues import any_values, truths
from tests.badruns import bad_runs
from tests.leading import IDLE, looks, plan_by_chance, schedule_by_chance
from tests.test_book import DEAF, DEAF_WORK, SHARED_WORK, SHARING
from tests.test_readers import SIGNS
from tests.works import draw

TAKE, PUT, MAP, READ = ("take", 0), ("put", 0, 1), ("map", 0), ("read", 0, 0)


def plan_line(plan):
    """Return the text of a plan with "; " in the place of the line feeds, but for the last one."""
    return show_plan(plan)[:-1].replace("\n", "; ")


def desk_of(*hands, rooms=(1,), outs=(), plan=None):
    return Desk(plan or standard(), (hands, rooms, outs))


class DeskCase(unittest.TestCase):
    def check(self, desk, rows):
        for line, answer in rows:
            self.assertEqual(desk.execute(line), answer, line)

    def no_command(self, desk, line):
        before = (desk.book(), desk.execute("able"), desk.execute("schedule"))
        with self.assertRaises(NoCommand, msg=repr(line)) as caught:
            desk.execute(line)
        self.assertIs(type(caught.exception), NoCommand)
        self.assertEqual((desk.book(), desk.execute("able"), desk.execute("schedule")), before)


class LineTest(DeskCase):
    def test_it_stands_in_the_file(self):
        self.assertEqual(Desk.__module__, module.__name__)
        for word in ("__init__", "execute", "book"):
            self.assertIn(word, vars(Desk))

    def test_wrong_arguments(self):
        work = (IDLE, (), ())
        for thing in any_values() + truths() + [list(work)]:
            for handed, place in [((thing, work), 0), ((thing, thing), 0), ((standard(), thing), 1)]:
                with self.assertRaises(Wrong) as caught:
                    Desk(*handed)
                self.assertEqual((type(caught.exception.place), caught.exception.place), (int, place))

    def test_steps(self):
        self.check(desk_of((MAP, READ, ("read", 5, 0), MAP, ("drop", 7), ("send", "no")), outs=(("root", 3),)), [
            ("able", "- 0"), ("step 0", "map wipe"), ("step 0", "map put"), ("step 0", "access done"),
            ("step -", "out skip"), ("step 0", "fault none"), ("step 0", "map there"), ("step 0", "drop none"),
            ("step 0", "send none"), ("step 1", "refused Stuck"), ("step -", "refused Stuck"), ("step 0.0.0", "refused Stuck"),
            ("told 0", "done 0 none there none none"), ("schedule", "0 0 0 - 0 0 0 0"), ("able", "0"),
        ])

    def test_run(self):
        desk = desk_of((MAP, READ), (TAKE,))
        self.check(desk, [
            ("run 0 0 - 1 7 1 1 1 1 0", "7"), ("schedule", "0 0 1 1 1 1 0"), ("run none", "0"), ("run 1 1", "0"),
            ("told 0", "done 0"), ("told 1", "-"), ("able", "none"), ("run 0", "0"), ("lost", "no"), ("like", "yes"),
        ])

    def test_run_passes_over_what_is_refused_for_a_fact(self):
        desk = Desk(SHARING, SHARED_WORK)
        self.check(desk, [("run 0 0 0 0 0 0.1.0", "6"), ("watch alone", "done"), ("run 0 0.1.0 0", "1"),
                          ("step 0", "refused Fails"), ("schedule", "0 0 0 0 0 0.1.0 0.1.0"), ("unwatch alone", "done"),
                          ("step 0", "fork raise"), ("facts", "alone"), ("watch alone", "refused Fails")])

    def test_back_and_again(self):
        desk = desk_of((MAP, READ), (TAKE,))
        self.check(desk, [
            ("back", "refused Nothing"), ("again", "refused Nothing"), ("run 0 1 0", "3"), ("back", "0"), ("back", "1"),
            ("schedule", "0"), ("again", "1"), ("schedule", "0 1"), ("run none", "0"), ("step 9", "refused Stuck"),
            ("watch called", "done"), ("again", "0"), ("again", "refused Nothing"), ("back", "0"), ("step 1", "await try"),
            ("again", "refused Nothing"), ("back", "1"), ("back", "1"), ("back", "0"), ("back", "refused Nothing"),
            ("schedule", "none"), ("again", "0"),
        ])

    def test_the_pager(self):
        desk = desk_of((MAP,), outs=(("root", 0),))
        self.check(desk, [("run 0 0 - - -", "5"), ("back", "-"), ("again", "-"), ("schedule", "0 0 - - -"),
                          ("facts", "busy"), ("step -", "out lower"), ("facts", "-")])

    def test_swap(self):
        other = standard().with_order("map", ("put", "wipe")).with_order("copy", ("shut", "put", "fill", "flush"))
        desk = desk_of((MAP, ("map", 1)))
        self.check(desk, [
            ("plan", plan_line(standard())), ("step 0", "map wipe"), ("swap " + plan_line(other), "refused Busy"),
            ("step 0", "map put"), ("swap " + plan_line(other), "done"), ("plan", plan_line(other)), ("schedule", "0 0 plan"),
            ("step 0", "map put"), ("like", "refused Busy"), ("back", "0"), ("back", "plan"), ("like", "yes"),
            ("plan", plan_line(standard())), ("again", "plan"), ("like", "refused Busy"), ("plan", plan_line(other)),
            ("again", "0"), ("again", "refused Nothing"), ("schedule", "0 0 plan 0"),
        ])
        self.assertEqual(desk.execute("plan").count(";"), 16)
        self.assertTrue(desk.execute("plan").startswith("lock each; await join try heed; close seal wake; copy shut put fill "))
        self.assertTrue(desk.execute("plan").endswith("; wake take all; left no; passes no"))

    def test_swap_by_chance(self):
        desk = desk_of((MAP,))
        for seed in range(60):
            plan = plan_by_chance(random.Random(seed))
            self.check(desk, [("swap " + plan_line(plan), "done"), ("plan", plan_line(plan))])
        self.assertEqual(desk.execute("schedule"), " ".join(["plan"] * 60))

    def test_watch(self):
        desk = desk_of((MAP,))
        self.check(desk, [
            ("watch alone", "done"), ("watch alone", "refused There"), ("watch none", "refused NoFact"),
            ("watch abcdefgh", "refused NoFact"), ("unwatch heeded", "refused Absent"), ("unwatch z", "refused Absent"),
            ("unwatch alone", "done"), ("unwatch alone", "refused Absent"), ("watch heeded", "done"),
        ])
        self.assertEqual(desk.book().watched(), ["heeded"])

    def test_told(self):
        desk = desk_of((MAP, PUT, ("put", 0, 2), ("fork", "kid", IDLE), ("drain", 1)), (("drain", 0), ("drain", 0), ("wait",)),
                       rooms=(2, 1))
        self.check(desk, [
            ("told 0", "-"), ("told 1", "-"), ("told -", "refused NoHand"), ("told 2", "refused NoHand"),
            ("told 0.3.0", "refused NoHand"), ("told 5", "refused NoHand"),
            ("run 0 0 0 0 0 0 0 0 1 1 1 0 0 0 0", "15"), ("told 0", "done done done done"), ("told 1", "(1,2)"),
            ("told 0.3.0", "-"), ("told 0.3.1", "refused NoHand"),
        ])
        desk = desk_of((PUT,), (("drain", 0), ("read", 0, 0), ("close", 0), ("drain", 0)))
        self.check(desk, [("run 0 0 0 1 1 1 1 1 1 1 1", "11"), ("told 1", "(1) none done end")])

    def test_facts_and_lost(self):
        desk = Desk(DEAF, DEAF_WORK)
        self.check(desk, [
            ("facts", "-"), ("step 1", "send rouse"), ("facts", "busy"), ("run 0 0 0 0", "4"), ("step 1", "send post"),
            ("facts", "heeded"), ("step 1", "await join"), ("lost", "no"), ("step 1", "await try"), ("facts", "called heeded"),
            ("lost", "yes"), ("like", "yes"), ("able", "none"),
        ])

    def test_like(self):
        for rule, plan, work, schedule, fault in bad_runs():
            desk = Desk(plan, work)
            self.assertEqual(desk.execute("like"), "yes")
            self.check(desk, [("run " + show_schedule(schedule), str(len(schedule))),
                              ("like", "yes" if fault == "lost" else "no"), ("lost", "yes" if fault == "lost" else "no")])

    def test_the_book_is_a_copy(self):
        work = ((MAP, READ), (TAKE,))
        desk = desk_of(*work)
        desk.execute("run 0 0 0")
        desk.execute("back")
        book = desk.book()
        self.assertIsInstance(book, Book)
        book.again()
        book.step((1,))
        book.watch("alone")
        self.check(desk, [("schedule", "0 0"), ("unwatch alone", "refused Absent"), ("again", "0"), ("schedule", "0 0 0")])
        other = Book(standard(), (work, (1,), ()))
        for _ in range(3):
            other.step((0,))
        self.assertEqual(desk.book(), other)


class NoCommandTest(DeskCase):
    def lines(self):
        return ["step 0", "run 0 1", "run none", "back", "again", "swap " + plan_line(standard()), "watch alone",
                "unwatch alone", "told 0", "able", "facts", "like", "lost", "plan", "schedule"]

    def test_words_too_many_or_too_few(self):
        desk = desk_of((MAP, READ), (TAKE,))
        desk.execute("run 0 0 0")
        desk.execute("back")
        for line in self.lines():
            for other in [line + " ", " " + line, line + " -", line + "\n", "\n" + line, line + " x", line.replace(" ", "  "),
                          line.upper(), line[1:], line + ";", line + "; "]:
                # One agent more is a schedule still.
                if other not in (line, "run 0 1 -"):
                    self.no_command(desk, other)
            if " " in line:
                self.no_command(desk, line.split(" ")[0])
                self.no_command(desk, line.split(" ")[0] + " ")
        self.assertEqual(desk.execute("again"), "0")

    def test_texts_that_are_not_read(self):
        desk = desk_of((MAP, READ))
        for text in ["", " ", "00", "0.0", "+0", "-1", "0.", ".0", "0.1.2.3", "a", "--", "- -", "0,1", "(0,)", "0\n", "none", "plan"]:
            self.no_command(desk, "step " + text)
            self.no_command(desk, "told " + text)
            if text not in ("none", "- -"):
                self.no_command(desk, "run " + text)
        for text in ["0  0", "0 none", "none none", "0 plan", "None"]:
            self.no_command(desk, "run " + text)
        for text in ["", "Alone", "alone called", "abcdefghi", "a1", "1", "-", "alone\n"]:
            self.no_command(desk, "watch " + text)
            self.no_command(desk, "unwatch " + text)

    def test_plans_that_are_not_read(self):
        desk = desk_of((MAP, READ))
        text = plan_line(standard())
        for other in [show_plan(standard()), show_plan(standard())[:-1], text + "; ", text + "\n", text.replace("; ", ";"),
                      text.replace("; ", " ; "), text.replace("; ", ", "), text.replace("; ", "\n", 1), "; " + text,
                      text.replace("each", "none"), text.replace("; left no", ""), text.replace("left no", "left False"),
                      text.replace("wake put all", "wake put some"), text.replace("map wipe put", "map put put"),
                      text.replace("close seal wake; ", ""), text.replace("close seal wake", "close seal"), text + " no",
                      text.replace("; ", ";; "), text.replace("; ", ";  ")]:
            self.no_command(desk, "swap " + other)
        self.assertEqual(desk.execute("swap " + text), "done")

    def test_other_lines(self):
        desk = desk_of((MAP, READ))
        for line in ["", " ", "\n", "stop", "step0", "Step 0", "go 0", "watched", "machine", "trial 0", "len", "book", "none",
                     "0", "step 0; step 0", "step 0\nstep 0", "able 0", "facts -", "refused", "x" * 3000, " " * 3000,
                     "step " + "0." * 1400 + "x", "_run 0", "__init__", "plan " + plan_line(standard())]:
            self.no_command(desk, line)

    def test_lines_with_one_sign_otherwise(self):
        """Each is a command as it stands, or none."""
        words = ["step", "run", "back", "again", "swap", "watch", "unwatch", "told", "able", "facts", "like", "lost", "plan",
                 "schedule"]
        for line in self.lines():
            if line.startswith("swap"):
                continue
            for at in range(len(line) + 1):
                for sign in SIGNS:
                    for other in (line[:at] + sign + line[at:], line[:at] + sign + line[at + 1:]):
                        desk = desk_of((MAP, READ), (TAKE,))
                        try:
                            self.assertIs(type(desk.execute(other)), str)
                        except NoCommand:
                            self.assertEqual(desk.book(), desk_of((MAP, READ), (TAKE,)).book())
                            self.assertNotIn(other, self.lines())
                        else:
                            self.assertIn(other.split(" ")[0], words)
                            self.assertEqual(other, " ".join(other.split()))


class ChanceTest(DeskCase):
    def answer(self, book, plan, work, line):
        """Return what a line has to tell, by a Book that is led beside."""
        word, _, text = line.partition(" ")
        agents = [() if part == "-" else tuple(map(int, part.split("."))) for part in text.split(" ") if word in ("step", "run")]
        try:
            if word == "step":
                return " ".join(book.step(agents[0]))
            if word == "run":
                return str(sum(self.is_done(book, agent) for agent in agents))
            if word in ("back", "again"):
                agent = book.back() if word == "back" else book.again()
                return "plan" if agent is None else show_agent(agent)
            if word in ("watch", "unwatch"):
                (book.watch if word == "watch" else book.unwatch)(text)
                return "done"
            if word == "told":
                told = book.machine().told().get(tuple(map(int, text.split("."))))
                if told is None:
                    raise NoHand(None)
                return " ".join(str(part).replace(" ", "").replace(",)", ")") for part in told) or "-"
        except KernelError as error:
            return "refused " + type(error).__name__
        machine = book.machine()
        wrong = facts(machine)
        return {
            "able": show_schedule(machine.able()), "facts": "busy" if wrong is None else " ".join(wrong) or "-",
            "like": "yes" if is_like(plan, work, book.schedule()) else "no", "lost": "yes" if is_lost(machine) else "no",
            "schedule": show_schedule(book.schedule()), "plan": plan_line(plan),
        }[word]

    def is_done(self, book, agent):
        try:
            book.step(agent)
        except KernelError:
            return False
        return True

    def test_led_beside_a_book(self):
        refused = {}
        for seed in range(60):
            chance = random.Random(seed)
            plan, work = (SHARING, SHARED_WORK) if seed % 6 == 0 else (plan_by_chance(chance), draw(chance))
            desk, book = Desk(plan, work), Book(plan, work)
            for agent in schedule_by_chance(chance, work, 60):
                word = chance.choice(["step"] * 4 + ["run", "back", "again", "watch", "unwatch", "told", "able", "facts", "like",
                                                     "lost", "schedule", "plan"])
                if word == "told" and agent == ():
                    continue
                line = word
                if word in ("step", "told"):
                    line = word + " " + show_agent(agent)
                elif word == "run":
                    line = word + " " + show_schedule([agent] * 3 + schedule_by_chance(chance, work, 5))
                elif word in ("watch", "unwatch"):
                    line = word + " " + chance.choice(["alone", "cached", "called", "counted", "heeded", "none"])
                answer = self.answer(book, plan, work, line)
                self.assertEqual(desk.execute(line), answer, line)
                self.assertEqual(desk.book(), book)
                if answer.startswith("refused"):
                    refused[answer] = True
            self.assertEqual(looks(desk.book().machine(), work), looks(book.machine(), work))
        self.assertLessEqual({"refused " + word for word in ("Stuck", "Nothing", "There", "Absent", "NoFact", "NoHand")},
                             set(refused))

    def test_a_work_by_its_text(self):
        work = read_work("hands (map 0; fork kid (write 0 0 5 | read 0 0); wait)\nrooms\nouts kid:0\n")
        desk = Desk(standard(), work)
        while desk.execute("able") != "none":
            self.assertNotEqual(desk.execute("run " + desk.execute("able")), "0")
            self.assertEqual(desk.execute("like"), "yes")
        self.assertEqual(desk.execute("told 0"), "done done kid")


if __name__ == "__main__":
    unittest.main()
