"""Readers: what texts write, just as belowall.notation shows it.

A reader looks for the words of a text without much ado, and then shows what it has found: it is what the text writes
if it comes out as the very text.
"""

from belowall.errors import NoText, Wrong
from belowall.kinds import are_hands, is_agent, is_schedule, is_work
from belowall.notation import (
    show_agent, show_call, show_hands, show_plan, show_plan_line, show_schedule, show_work,
)
from belowall.plans import Plan

MARKS = ("(", ")", ";", "|")


def tokens_of(text):
    """Return the list of the words and marks of a text."""
    for mark in MARKS:
        text = text.replace(mark, " " + mark + " ")
    return text.split(" ")


def number_or_word(word):
    """Return the integer that a word writes, or the word."""
    return int(word) if word.isdecimal() else word


class Bracket:
    """Hands that are being read, whose last call is not over yet."""

    def __init__(self):
        self.hands_read = []
        self.calls_read = []
        self.parts = []

    def end_call(self):
        """Let the last call be over."""
        self.calls_read.append(tuple(self.parts))
        self.parts = []

    def end_hand(self):
        """Let the last hand be over."""
        self.end_call()
        self.hands_read.append(() if self.calls_read == [("idle",)] else tuple(self.calls_read))
        self.calls_read = []

    def take(self, token):
        """Take a word, or a mark that neither opens nor shuts."""
        if token == ";":
            self.end_call()
        elif token == "|":
            self.end_hand()
        elif token:
            self.parts.append(number_or_word(token))


def hands_written(text):
    """Return the hands that a text writes, or what comes of it else, or None; it may be shown otherwise."""
    # Brackets that are open at once stand in a row, as they may stand deeper than Python likes to recur.
    open_ones = [Bracket()]
    for token in tokens_of(text):
        if token == "(":
            open_ones.append(Bracket())
        elif token == ")" and len(open_ones) == 1:
            return None
        elif token == ")":
            shut = open_ones.pop()
            shut.end_hand()
            open_ones[-1].parts.append(tuple(shut.hands_read))
        else:
            open_ones[-1].take(token)
    parts = open_ones[0].parts
    return parts[0] if len(open_ones) == 1 and len(parts) == 1 else None


def read_hands(text):
    """Return the hands that a text writes."""
    hands = hands_written(text)
    if not are_hands(hands) or show_hands(hands) != text:
        raise NoText()
    return hands


def read_call(text):
    """Return the call that a text writes."""
    hands = hands_written("(" + text + ")")
    if not are_hands(hands) or len(hands) != 1 or len(hands[0]) != 1 or show_call(hands[0][0]) != text:
        raise NoText()
    return hands[0][0]


def line_parts(line, word):
    """Return the list of the words of a line behind its first word."""
    words = line.split(" ")
    if words[0] != word:
        raise NoText()
    return words[1:]


def out_written(word):
    """Return the tuple (name, page) that a word writes, or what comes of it else."""
    name, _, page = word.partition(":")
    return (name, number_or_word(page))


def read_work(text):
    """Return the work that a text writes."""
    lines = text.split("\n")
    if len(lines) != 4:
        raise NoText()
    _, _, hands = lines[0].partition(" ")
    rooms = tuple([number_or_word(word) for word in line_parts(lines[1], "rooms")])
    outs = tuple([out_written(word) for word in line_parts(lines[2], "outs")])
    work = (hands_written(hands), rooms, outs)
    if not is_work(work) or show_work(work) != text:
        raise NoText()
    return work


def agent_written(text):
    """Return the agent that a text writes, or what comes of it else."""
    return () if text == "-" else tuple([number_or_word(word) for word in text.split(".")])


def read_agent(text):
    """Return the agent that a text writes."""
    agent = agent_written(text)
    if not is_agent(agent) or show_agent(agent) != text:
        raise NoText()
    return agent


def read_schedule(text):
    """Return the schedule that a text writes."""
    schedule = [] if text == "none" else [agent_written(word) for word in text.split(" ")]
    if not is_schedule(schedule) or show_schedule(schedule) != text:
        raise NoText()
    return schedule


def truth_written(word):
    """Return the truth that a word tells, or the word."""
    return word == "yes" if word in ("yes", "no") else word


def plan_written(rows):
    """Return the Plan that lines, lists of words, write."""
    if len(rows) != 18 or not all([len(row) > 1 for row in rows[:17]]):
        raise NoText()
    orders = {row[0]: tuple(row[1:]) for row in rows[1:11]}
    wakes = {row[1]: row[-1] for row in rows[11:15]}
    try:
        return Plan(rows[0][1], orders, wakes, truth_written(rows[15][1]), truth_written(rows[16][1]))
    except Wrong:
        raise NoText() from None


def read_plan(text):
    """Return the Plan that a text writes."""
    plan = plan_written([line.split(" ") for line in text.split("\n")])
    if show_plan(plan) != text:
        raise NoText()
    return plan


def read_plan_line(text):
    """Return the Plan that a text writes in one line."""
    plan = plan_written([line.split(" ") for line in text.split("; ")] + [[""]])
    if show_plan_line(plan) != text:
        raise NoText()
    return plan
