"""What the document promises over the whole program [5]-[9]."""

import random
import unittest

from belowall.bad import bad_run, bad_runs, is_bad
from belowall.book import Book
from belowall.desk import Desk
from belowall.everyrun import endings, is_safe, plain_endings
from belowall.facts import facts
from belowall.kinds import is_alone
from belowall.notation import show_agent, show_plan, show_schedule, show_work
from belowall.orders import apart, is_way, nearest, right_orders, way
from belowall.plans import deeds
from belowall.readers import read_agent, read_plan, read_schedule, read_work
from belowall.rules import broken, is_right
from tests.leading import plan_by_chance, schedule_by_chance
from tests.rightplans import right_plan
from tests.smallworks import page_work, small, waiting_work
from tests.tables import SETTINGS
from tests.works import draw

WORDS = ["alone", "cached", "called", "counted", "heeded"]


class RightPlanTest(unittest.TestCase):
    def test_a_work_by_a_right_plan_led_by_a_desk_from_its_texts(self):
        """It is like the plain machine, loses nobody and breaks no fact, and its Book is equal to one led beside."""
        for seed in range(80):
            chance = random.Random(seed)
            alone = seed % 3 == 0
            work, plan = draw(chance, alone), right_plan(chance, alone)
            text, plan_text = show_work(work), show_plan(plan)
            desk, book = Desk(read_plan(plan_text), read_work(text)), Book(plan, work)
            # For works that are alone the facts are no promise.
            for word in [] if alone else WORDS:
                self.assertEqual(desk.execute("watch " + word), "done")
                book.watch(word)
            for agent in schedule_by_chance(chance, work, 60):
                if agent in book.machine().able():
                    deed, word = book.step(agent)
                    self.assertEqual(desk.execute("step " + show_agent(agent)), deed + " " + word)
                if not alone:
                    self.assertIn(facts(book.machine()), (None, []))
            self.assertEqual(desk.execute("like"), "yes")
            while book.machine().able() and len(book) < 400:
                agent = chance.choice(book.machine().able())
                self.assertEqual(desk.execute("run " + show_schedule([agent])), "1")
                book.step(agent)
            self.assertEqual([desk.execute(line) for line in ("able", "lost", "like")], ["none", "no", "yes"], seed)
            self.assertEqual(desk.book(), book)
            self.assertEqual(read_schedule(desk.execute("schedule")), book.schedule())
            self.assertIs(is_bad(plan, work, book.schedule()), False)

    def test_facts_hold_by_plans_that_are_right_for_all_works(self):
        """Of works that are alone, too, where a plan is right for all."""
        for seed in range(60):
            chance = random.Random(seed)
            work, plan = draw(chance, seed % 2 == 0), right_plan(chance, False)
            book = Book(plan, work)
            for agent in schedule_by_chance(chance, work, 120):
                if agent in book.machine().able():
                    book.step(agent)
                    self.assertIn(facts(book.machine()), (None, []), seed)

    def test_all_runs_of_small_works(self):
        for seed in range(100, 160):
            chance = random.Random(seed)
            work = small(chance, chance.choice([page_work, waiting_work]))
            plan = right_plan(chance, is_alone(work))
            self.assertIs(is_safe(plan, work), True, seed)
            self.assertLessEqual({told for told, _ in endings(plan, work)}, set(plain_endings(work)))


class WrongPlanTest(unittest.TestCase):
    def test_right_exactly_if_no_small_run_is_bad(self):
        for seed in range(150):
            chance = random.Random(seed)
            plan, alone = plan_by_chance(chance), seed % 2 == 0
            if seed % 3 == 0:
                plan = right_plan(chance, alone)
            found = bad_run(plan, alone)
            self.assertIs(found is None, is_right(plan, alone))
            self.assertEqual(list(bad_runs(plan, alone)), broken(plan, alone))
            if found is not None:
                work, schedule = found
                desk = Desk(plan, read_work(show_work(work)))
                self.assertEqual(desk.execute("run " + show_schedule(schedule)), str(len(schedule)))
                self.assertNotEqual((desk.execute("like"), desk.execute("lost")), ("yes", "no"))

    def test_the_way_from_a_wrong_order_to_a_right_one(self):
        """Step by step led to the nearest right order, a deed breaks no rule any more; from there all right ones are."""
        for seed in range(60):
            chance = random.Random(seed)
            deed, (lock, alone) = chance.choice(deeds()), chance.choice(SETTINGS)
            orders = right_orders(deed, lock, alone)
            number, rights = nearest(deed, chance.choice(orders), lock, alone)
            self.assertEqual(number, 0)
            one, other = rights[0], chance.choice(orders)
            found = way(deed, one, other, lock, alone)
            self.assertIs(is_way(deed, one, other, lock, alone, found), True)
            self.assertEqual(len(found), len(apart(one, other)) + 1)

    def test_agents_of_a_schedule(self):
        for seed in range(20):
            chance = random.Random(seed)
            for agent in schedule_by_chance(chance, draw(chance), 40):
                self.assertEqual(read_agent(show_agent(agent)), agent)


if __name__ == "__main__":
    unittest.main()
