"""The book [110]."""

import copy
import random
import time
import unittest

from belowall import book as module
from belowall.book import Book
from belowall.errors import Absent, Busy, Fails, KernelError, NoFact, Nothing, Stopped, Stuck, There, Wrong
from belowall.facts import facts
from belowall.machine import Machine
from belowall.plain import Plain
from belowall.plans import standard
from belowall.runs import led_on
from belowall.works import hands_in
from tests.anyvalues import any_values, truths
from tests.badruns import bad_runs
from tests.leading import IDLE, looks, plan_by_chance, schedule_by_chance
from tests.works import draw

TAKE, PUT, MAP, READ, WRITE = ("take", 0), ("put", 0, 1), ("map", 0), ("read", 0, 0), ("write", 0, 0, 1)
WORDS = ["alone", "cached", "called", "counted", "heeded"]

# By this plan a kid writes into the frame that it shares: behind the fork "alone" is not so.
SHARING = standard().with_order("fork", ("mark", "flush", "start", "raise"))
SHARED_WORK = (((MAP, ("fork", "kid", ((WRITE, TAKE),)), TAKE),), (1,), ())
# By this one it sleeps though its flag is up, and though it could take.
DEAF = standard().with_order("send", ("rouse", "post")).with_wake("put", "none")
DEAF_WORK = (((TAKE,), (("send", "root"), PUT)), (1,), ())


def book_of(*hands, rooms=(1,), outs=(), plan=None):
    return Book(plan or standard(), (hands, rooms, outs))


def led(book, schedule):
    for agent in schedule:
        book.step(agent)
    return book


def all_told(book, work):
    """Return all that a Book tells, with what back and again would lead to."""
    behind = book.copied()
    undone = []
    while True:
        try:
            undone.append((behind.again(), looks(behind.machine(), work)))
        except Nothing:
            break
    return (looks(book.machine(), work), book.schedule(), len(book), book.watched(), undone)


class BookCase(unittest.TestCase):
    def raises(self, error, call, *handed, **fields):
        """Check that a call raises an error with these fields, the objects themselves."""
        with self.assertRaises(KernelError) as caught:
            call(*handed)
        self.assertIs(type(caught.exception), error)
        self.assertEqual(set(vars(caught.exception)), set(fields))
        for name, thing in fields.items():
            found = getattr(caught.exception, name)
            self.assertTrue(found is thing or (type(found), found) == (type(thing), thing), found)


class StepTest(BookCase):
    def test_it_stands_in_the_file(self):
        self.assertEqual(Book.__module__, module.__name__)
        for word in ("__init__", "__eq__", "__len__", "step", "back", "again", "schedule", "machine", "watch", "unwatch",
                     "watched", "swap", "copied", "trial"):
            self.assertIn(word, vars(Book))

    def test_wrong_arguments(self):
        work = ((IDLE[0],), (), ())
        for thing in any_values() + truths() + [Plain((((),), (), ())), list(work)]:
            self.raises(Wrong, Book, thing, work, place=0)
            self.raises(Wrong, Book, thing, thing, place=0)
            self.raises(Wrong, Book, standard(), thing, place=1)
            self.raises(Wrong, book_of((MAP,)).swap, thing, place=0)
        self.raises(Wrong, Book, work, standard(), place=0)

    def test_steps(self):
        book = book_of((MAP, READ))
        self.assertEqual([book.schedule(), len(book), book.watched()], [[], 0, []])
        self.assertEqual([book.step((0,)) for _ in range(3)], [("map", "wipe"), ("map", "put"), ("access", "done")])
        self.assertEqual([book.schedule(), len(book)], [[(0,)] * 3, 3])
        self.assertEqual(book.machine().told(), {(0,): ["done", 0]})

    def test_as_a_machine(self):
        for seed in range(40):
            chance = random.Random(seed)
            work, plan = draw(chance), plan_by_chance(chance)
            book, machine, done = Book(plan, work), Machine(plan, work), []
            for agent in schedule_by_chance(chance, work, 60):
                if agent in machine.able():
                    self.assertEqual(book.step(agent), machine.step(agent))
                    done.append(agent)
                else:
                    self.raises(Stuck, book.step, agent, agent=agent)
                self.assertEqual(book.schedule(), done)
            self.assertEqual(looks(book.machine(), work), looks(machine, work))

    def test_stuck_with_the_very_argument(self):
        work = ((MAP,), (TAKE,))
        book = book_of(*work)
        book.step((0,))
        book.back()
        before = all_told(book, (work, (1,), ()))
        for thing in any_values() + truths() + [(2,), (0, 0, 0), [0], (0,) * 3, None]:
            self.raises(Stuck, book.step, thing, agent=thing)
        self.assertEqual(all_told(book, (work, (1,), ())), before)

    def test_what_is_told_is_new(self):
        book = led(book_of((MAP,)), [(0,)])
        book.schedule().clear()
        book.watched().append("alone")
        book.machine().step((0,))
        self.assertEqual([book.schedule(), book.watched(), book.machine().told()], [[(0,)], [], {(0,): []}])


class BackTest(BookCase):
    def test_nothing(self):
        book = book_of((MAP,))
        self.raises(Nothing, book.back)
        self.raises(Nothing, book.again)
        book.step((0,))
        self.raises(Nothing, book.again)
        self.assertEqual(book.back(), (0,))
        self.raises(Nothing, book.back)
        self.assertEqual(book.again(), (0,))
        self.raises(Nothing, book.again)
        self.assertEqual(book.schedule(), [(0,)])

    def test_back_and_again_in_any_order(self):
        """Against the schedule that stands, led anew each time."""
        for seed in range(25):
            chance = random.Random(seed)
            work, plan = draw(chance), plan_by_chance(chance)
            book, stands, undone = Book(plan, work), [], []
            for _ in range(60):
                word = chance.choice(["step", "step", "step", "back", "back", "again", "again", "stuck"])
                able = book.machine().able()
                if word == "step" and able:
                    stands.append(chance.choice(able))
                    book.step(stands[-1])
                    undone = []
                elif word == "back" and stands:
                    undone.append(stands.pop())
                    self.assertEqual(book.back(), undone[-1])
                elif word == "again" and undone:
                    stands.append(undone.pop())
                    self.assertEqual(book.again(), stands[-1])
                elif word == "stuck":
                    self.raises(Stuck, book.step, (9,), agent=(9,))
                elif not undone:
                    self.raises(Nothing, book.again)
                machine = Machine(plan, work)
                for agent in stands:
                    machine.step(agent)
                self.assertEqual([book.schedule(), len(book)], [stands, len(stands)])
                self.assertEqual(looks(book.machine(), work), looks(machine, work))

    def test_what_again_outlives(self):
        """Steps that are refused, watching and all that is asked is no step."""
        book = led(book_of((MAP, READ), (TAKE,)), [(0,), (0,), (0,)])
        book.back()
        self.raises(Stuck, book.step, (5,), agent=(5,))
        self.raises(Nothing, book_of((MAP,)).again)
        book.watch("alone")
        book.unwatch("alone")
        self.raises(NoFact, book.watch, "none", fact="none")
        self.raises(Absent, book.unwatch, "alone", fact="alone")
        self.raises(Wrong, book.swap, None, place=0)
        book.trial([(1,)])
        book.copied().step((1,))
        book.machine().step((1,))
        self.assertEqual([book.again(), book.schedule()], [(0,), [(0,)] * 3])
        book.back()
        book.step((1,))
        self.raises(Nothing, book.again)
        self.assertEqual(book.schedule(), [(0,), (0,), (1,)])

    def test_a_refused_swap_counts_for_nothing(self):
        book = led(book_of((MAP, READ)), [(0,), (0,)])
        book.back()
        self.raises(Busy, book.swap, standard())
        self.assertEqual(book.again(), (0,))

    def test_again_is_not_refused_for_a_fact(self):
        book = led(Book(SHARING, SHARED_WORK), [(0,)] * 5 + [(0, 1, 0)] + [(0,)])
        self.assertEqual(facts(book.machine()), ["alone"])
        self.assertEqual(book.back(), (0,))
        self.assertEqual(book.back(), (0, 1, 0))
        book.watch("alone")
        self.assertEqual([book.again(), book.again()], [(0, 1, 0), (0,)])
        self.assertEqual([facts(book.machine()), book.watched()], [["alone"], ["alone"]])


class WatchTest(BookCase):
    def test_any_value(self):
        book = book_of((MAP,))
        for thing in any_values() + truths() + ["Alone", "alone ", ("alone",), ["alone"], {"alone": 1}, 0, 1]:
            self.raises(NoFact, book.watch, thing, fact=thing)
            self.raises(Absent, book.unwatch, thing, fact=thing)
        for word in WORDS:
            self.raises(Absent, book.unwatch, word, fact=word)
        self.assertEqual(book.watched(), [])

    def test_watched_ascends(self):
        book = book_of((MAP,))
        for word in ["heeded", "alone", "counted", "called", "cached"]:
            self.assertIsNone(book.watch(word))
            self.raises(There, book.watch, word, fact=word)
        self.assertEqual(book.watched(), WORDS)
        self.assertIsNone(book.unwatch("called"))
        self.raises(Absent, book.unwatch, "called", fact="called")
        self.assertEqual(book.watched(), ["alone", "cached", "counted", "heeded"])

    def test_fails_where_it_is_not_so_now(self):
        book = led(Book(SHARING, SHARED_WORK), [(0,)] * 5 + [(0, 1, 0), (0,)])
        self.raises(Fails, book.watch, "alone", fact="alone", step=None)
        self.assertEqual(book.watched(), [])
        book.watch("cached")
        # There comes ahead of Fails: a fact that was watched ahead of what back and again led to.
        book.back()
        book.watch("alone")
        book.again()
        self.raises(There, book.watch, "alone", fact="alone")
        book.unwatch("alone")
        self.raises(Fails, book.watch, "alone", fact="alone", step=None)

    def test_a_machine_that_is_not_quiet_is_not_asked(self):
        book = led(Book(SHARING, SHARED_WORK), [(0,)] * 5 + [(0, 1, 0)])
        self.assertIsNone(facts(book.machine()))
        book.watch("alone")
        before = book.schedule()
        self.raises(Fails, book.step, (0,), fact="alone", step=("fork", "raise"))
        self.assertEqual(book.schedule(), before)
        self.assertIsNone(facts(book.machine()))
        # The kid may go on where the machine is not quiet behind it; the deed is never over.
        self.assertEqual(book.step((0, 1, 0)), ("access", "done"))
        self.raises(Fails, book.step, (0,), fact="alone", step=("fork", "raise"))
        book.unwatch("alone")
        self.assertEqual(book.step((0,)), ("fork", "raise"))

    def test_a_refused_step_changes_nothing(self):
        work = SHARED_WORK
        book = led(Book(SHARING, work), [(0,)] * 5 + [(0, 1, 0), (0, 1, 0)])
        book.back()
        book.watch("alone")
        before = all_told(book, work)
        self.raises(Fails, book.step, (0,), fact="alone", step=("fork", "raise"))
        self.assertEqual(all_told(book, work), before)
        self.assertEqual(book.again(), (0, 1, 0))

    def test_the_least_fact(self):
        """A hand sleeps that could take, and whose flag is up."""
        book = led(Book(DEAF, DEAF_WORK), [(1,), (0,), (0,), (0,), (0,)])
        for word in ["heeded", "cached"]:
            book.watch(word)
        self.raises(Fails, book.step, (1,), fact="heeded", step=("send", "post"))
        book.unwatch("heeded")
        led(book, [(1,), (1,)])
        other = book.copied()
        book.watch("called")
        self.raises(Fails, book.step, (1,), fact="called", step=("await", "try"))
        other.watch("heeded")
        self.raises(Fails, other.step, (1,), fact="heeded", step=("await", "try"))
        other.watch("called")
        self.raises(Fails, other.step, (1,), fact="called", step=("await", "try"))
        for word in ("called", "heeded"):
            other.unwatch(word)
        self.assertEqual(other.step((1,)), ("await", "try"))
        self.assertEqual(facts(other.machine()), ["called", "heeded"])

    def test_stuck_ahead_of_fails(self):
        book = led(Book(SHARING, SHARED_WORK), [(0,)] * 5 + [(0, 1, 0)])
        book.watch("alone")
        self.raises(Stuck, book.step, (0, 0, 0), agent=(0, 0, 0))

    def test_by_chance(self):
        """With some facts watched, against a Machine: refused is just what leads where one of them is not so."""
        failed = {}
        for seed, (_, plan, work, schedule, _) in enumerate(bad_runs() * 6):
            chance = random.Random(seed)
            book = Book(plan, work)
            watched = sorted(chance.sample(WORDS, chance.randrange(6)))
            for word in chance.sample(watched, len(watched)):
                book.watch(word)
            for agent in schedule + schedule_by_chance(chance, work, 30):
                machine = book.machine()
                if agent not in machine.able():
                    continue
                told = machine.step(agent)
                wrong = [word for word in facts(machine) or [] if word in watched]
                if wrong:
                    failed[wrong[0]] = True
                    self.raises(Fails, book.step, agent, fact=wrong[0], step=told)
                else:
                    self.assertEqual(book.step(agent), told)
        # No run is known in which "counted" is not so.
        self.assertEqual(sorted(failed), ["alone", "cached", "called", "heeded"])


class SwapTest(BookCase):
    late = standard().with_order("map", ("put", "wipe"))

    def test_deeds_behind_it_go_by_the_new_plan(self):
        book = led(book_of((MAP, ("map", 1)), (("map", 2),)), [(0,), (0,)])
        self.assertIsNone(book.swap(self.late))
        self.assertEqual([book.schedule(), len(book)], [[(0,), (0,), None], 3])
        self.assertEqual([book.step((0,)), book.step((0,))], [("map", "put"), ("map", "wipe")])
        self.assertEqual([book.back(), book.back(), book.back()], [(0,), (0,), None])
        self.assertEqual(book.schedule(), [(0,), (0,)])
        self.assertEqual(book.step((1,)), ("map", "wipe"))
        self.raises(Nothing, book.again)

    def test_back_and_again_over_it(self):
        book = led(book_of((MAP, ("map", 1))), [(0,), (0,)])
        book.swap(self.late)
        book.step((0,))
        self.assertEqual([book.back(), book.back()], [(0,), None])
        self.assertEqual([book.again(), book.again()], [None, (0,)])
        self.assertEqual(book.schedule(), [(0,), (0,), None, (0,)])
        self.assertEqual(book.step((0,)), ("map", "wipe"))

    def test_it_ends_what_was_taken_back(self):
        book = led(book_of((MAP, ("map", 1))), [(0,), (0,), (0,)])
        book.back()
        book.swap(standard())
        self.raises(Nothing, book.again)
        self.assertEqual(book.schedule(), [(0,), (0,), None])

    def test_wrong_ahead_of_busy(self):
        book = led(book_of((MAP,)), [(0,)])
        self.raises(Wrong, book.swap, None, place=0)
        self.raises(Busy, book.swap, self.late)
        self.assertEqual(book.step((0,)), ("map", "put"))
        book.swap(self.late)

    def test_it_asks_for_no_facts(self):
        book = led(Book(SHARING, SHARED_WORK), [(0,)] * 5 + [(0, 1, 0)])
        book.back()
        book.watch("alone")
        book.again()
        book.unwatch("alone")
        book.step((0,))
        self.assertEqual(facts(book.machine()), ["alone"])
        book.back()
        book.watch("alone")
        book.again()
        self.assertIsNone(book.swap(self.late))

    def test_the_lock_may_be_another_one(self):
        book = led(book_of((MAP,), (("map", 1),)), [(0,), (0,)])
        book.swap(standard().with_lock("all"))
        book.step((1,))
        self.assertEqual(book.machine().able(), [(1,)])
        self.assertEqual(book.back(), (1,))
        book.swap(standard())
        self.assertEqual(book.schedule(), [(0,), (0,), None, None])


class CopyTest(BookCase):
    def test_copies_go_on_by_themselves(self):
        work = ((MAP, READ), (TAKE,))
        book = led(book_of(*work), [(0,), (0,), (0,)])
        book.watch("alone")
        book.back()
        before = all_told(book, (work, (1,), ()))
        other = book.copied()
        self.assertEqual(all_told(other, (work, (1,), ())), before)
        other.again()
        other.step((1,))
        other.unwatch("alone")
        other.back()
        other.back()
        other.back()
        self.assertEqual(all_told(book, (work, (1,), ())), before)
        self.assertEqual(book.again(), (0,))
        self.assertEqual([other.schedule(), other.watched()], [[(0,)], []])

    def test_trial(self):
        book = led(book_of((MAP, READ), (TAKE,)), [(0,)])
        agents = [(0,), (0,), (1,)]
        other = book.trial(agents)
        self.assertEqual(agents, [(0,), (0,), (1,)])
        self.assertEqual([book.schedule(), other.schedule()], [[(0,)], [(0,), (0,), (0,), (1,)]])
        self.assertEqual(book.trial([]), book)
        self.assertIsNot(book.trial([]), book)

    def test_trial_with_what_was_taken_back(self):
        book = led(book_of((MAP, READ)), [(0,), (0,)])
        book.back()
        self.assertEqual(book.trial([]).again(), (0,))
        self.raises(Nothing, book.trial([(0,)]).again)
        self.assertEqual(book.again(), (0,))

    def test_stopped(self):
        book = led(book_of((MAP, READ), (TAKE,)), [(0,)])
        for agents, index in [([None], 0), ([(0,), None], 1), ([(0,), (0,), (9,), None], 2), ([(1,)] * 5, 4), ([()], 0)]:
            self.raises(Stopped, book.trial, agents, index=index)
        for thing in any_values() + truths():
            self.raises(Stopped, book.trial, [(0,), thing], index=1)
        self.assertEqual(book.schedule(), [(0,)])

    def test_stopped_by_a_fact(self):
        book = led(Book(SHARING, SHARED_WORK), [(0,)] * 5)
        book.watch("alone")
        self.raises(Stopped, book.trial, [(0, 1, 0), (0,), (0,)], index=1)
        self.assertEqual(book.watched(), ["alone"])


class EqualityTest(BookCase):
    def test_unlike_in_one_thing(self):
        work = ((MAP, READ), (("map", 1),))
        other_plan = standard().with_left(True)
        def fresh():
            return led(book_of(*work), [(0,), (0,)])
        books = [fresh() for _ in range(9)]
        books[1].step((0,))
        books[2].watch("alone")
        books[3].swap(standard())
        books[4].swap(other_plan)
        books[5] = led(book_of(*work, plan=other_plan), [(0,), (0,)])
        books[6] = led(book_of(*work, rooms=(2,)), [(0,), (0,)])
        books[7] = led(book_of(*work), [(1,), (1,)])
        books[8].step((1,))
        for k, one in enumerate(books):
            for n, other in enumerate(books):
                self.assertIs(one == other, k == n, (k, n))
                self.assertIs(one != other, k != n, (k, n))

    def test_equal_whatever_way_it_came(self):
        book, other = book_of((MAP, READ)), book_of((MAP, READ))
        self.assertEqual(book, other)
        led(book, [(0,), (0,), (0,)])
        book.back()
        book.watch("alone")
        book.watch("called")
        other.watch("called")
        other.watch("alone")
        other.watch("heeded")
        other.unwatch("heeded")
        led(other, [(0,), (0,)])
        # What was taken back is not asked for.
        self.assertEqual(book, other)
        self.assertEqual(book.copied(), book)
        self.assertEqual(book.trial([(0,)]), other.trial([(0,)]))
        other.step((0,))
        self.assertNotEqual(book, other)
        book.again()
        self.assertEqual(book, other)

    def test_swaps_at_other_places(self):
        one, other = book_of((MAP, READ)), book_of((MAP, READ))
        one.swap(standard())
        led(one, [(0,), (0,)])
        led(other, [(0,), (0,)])
        other.swap(standard())
        self.assertEqual(looks(one.machine(), (((MAP, READ),), (1,), ())), looks(other.machine(), (((MAP, READ),), (1,), ())))
        self.assertNotEqual(one, other)

    def test_equal_to_nothing_else(self):
        book = book_of((MAP,))
        for thing in any_values() + truths() + [book.machine(), standard(), [], 0, Plain((((),), (), ()))]:
            self.assertIs(book == thing, False)
            self.assertIs(thing == book, False)
            self.assertIs(book != thing, True)

    def test_arguments_are_not_changed(self):
        work = ((MAP, READ), (TAKE,))
        given = copy.deepcopy(work)
        plan = plan_by_chance(random.Random(4))
        before = (plan.lock, plan.orders(), plan.wakes(), plan.left, plan.passes)
        book = Book(plan, (work, (1,), ()))
        for agent in [(0,), (1,), (0,)]:
            book.step(agent)
        self.assertEqual(work, given)
        self.assertEqual((plan.lock, plan.orders(), plan.wakes(), plan.left, plan.passes), before)


class TimeTest(BookCase):
    def test_steps_taken_back_and_done_anew(self):
        chance = random.Random(3)
        works = [work for work in (draw(chance) for _ in range(300)) if len(hands_in(work)) == 7]
        work = max(works, key=lambda work: len(led_on(standard(), work, [])))
        book = Book(standard(), work)
        for word in WORDS:
            book.watch(word)
        begun = time.process_time()
        many = 0
        while book.machine().able() and many < 160:
            book.step(chance.choice(book.machine().able()))
            book.back()
            book.again()
            many += 1
        self.assertGreater(many, 60)
        for _ in range(many):
            book.back()
        for _ in range(many):
            book.again()
        self.assertEqual(len(book), many)
        self.assertLess(time.process_time() - begun, 3)


if __name__ == "__main__":
    unittest.main()
