"""The desk: it leads a book by lines."""

from belowall.book import Book
from belowall.errors import Absent, Busy, Fails, NoCommand, NoFact, NoHand, NoText, Nothing, Stuck, There
from belowall.facts import facts
from belowall.kinds import is_name
from belowall.likeness import is_like
from belowall.lost import is_lost
from belowall.notation import show_agent, show_plan_line, show_schedule, show_truth
from belowall.readers import read_agent, read_plan_line, read_schedule


def show_step(agent):
    """Return the text of the agent of a step, "plan" for a swap."""
    return "plan" if agent is None else show_agent(agent)


def show_telling(telling):
    """Return the text of what a call told."""
    if isinstance(telling, tuple):
        return "(" + ",".join([str(value) for value in telling]) + ")"
    return str(telling)


def show_words(words):
    """Return the text of words, of none of them too."""
    return " ".join(words) if words else "-"


class Desk:
    """A Book that is led by lines."""

    def __init__(self, plan, work):
        self._book = Book(plan, work)
        self._plan = plan
        self._work = work

    def book(self):
        """Return a copy of the Book."""
        return self._book.copied()

    def execute(self, line):
        """Do what a line says, and return what it tells."""
        try:
            return self._done(line)
        except NoText:
            raise NoCommand() from None
        except Absent:
            return "refused Absent"
        except Busy:
            return "refused Busy"
        except Fails:
            return "refused Fails"
        except NoFact:
            return "refused NoFact"
        except NoHand:
            return "refused NoHand"
        except Nothing:
            return "refused Nothing"
        except Stuck:
            return "refused Stuck"
        except There:
            return "refused There"

    def _done(self, line):
        """Do what a line says, with a text behind its word or without."""
        word, blank, text = line.partition(" ")
        return self._done_with(word, text) if blank else self._done_alone(word)

    def _done_with(self, word, text):
        """Do what a word says with a text behind it."""
        match word:
            case "step":
                return " ".join(self._book.step(read_agent(text)))
            case "run":
                return str(self._run(read_schedule(text)))
            case "swap":
                self._book.swap(read_plan_line(text))
                return "done"
            case "watch":
                self._book.watch(fact_written(text))
                return "done"
            case "unwatch":
                self._book.unwatch(fact_written(text))
                return "done"
            case "told":
                return self._told(read_agent(text))
            case _:
                raise NoCommand()

    def _done_alone(self, word):
        """Do what a word says by itself."""
        machine = self._book.machine()
        match word:
            case "back":
                return show_step(self._book.back())
            case "again":
                return show_step(self._book.again())
            case "able":
                return show_schedule(machine.able())
            case "facts":
                found = facts(machine)
                return "busy" if found is None else show_words(found)
            case "like":
                return show_truth(self._is_like())
            case "lost":
                return show_truth(is_lost(machine))
            case "plan":
                return show_plan_line(machine.kernel.plan)
            case "schedule":
                return self._schedule()
            case _:
                raise NoCommand()

    def _run(self, schedule):
        """Do the steps of a schedule that can be done, and return how many they were."""
        many = 0
        for agent in schedule:
            try:
                self._book.step(agent)
                many += 1
            except (Stuck, Fails):
                pass
        return many

    def _told(self, hand):
        """Return the text of what the calls of a hand told."""
        told = self._book.machine().told()
        if hand not in told:
            raise NoHand(hand)
        return show_words([show_telling(telling) for telling in told[hand]])

    def _is_like(self):
        """Tell whether the run so far is like the plain machine; with a swap in it, it is a run by no plan."""
        schedule = self._book.schedule()
        if None in schedule:
            raise Busy()
        return is_like(self._plan, self._work, schedule)

    def _schedule(self):
        """Return the text of the steps and swaps that stand."""
        schedule = self._book.schedule()
        return " ".join([show_step(agent) for agent in schedule]) if schedule else "none"


def fact_written(text):
    """Return the name that a text writes, be it a fact or not."""
    if not is_name(text):
        raise NoText()
    return text
