"""Readers once more, sign by sign, each by the grammar of the document; what writes nothing raises NoWriting."""

import re

from belowall.plans import Plan
from tests.tables import DEEDS, SORTS, WORDS, every_order

NUMBER, NAME, CELL = r"0|[1-9][0-9]*", r"[a-z]{1,8}", r"0|1"
PARTS = {
    "map": [NUMBER], "drop": [NUMBER], "read": [NUMBER, CELL], "write": [NUMBER, CELL, NUMBER], "fork": [NAME, None],
    "put": [NUMBER, NUMBER], "take": [NUMBER], "drain": [NUMBER], "close": [NUMBER], "wait": [], "send": [NAME],
}


class NoWriting(Exception):
    pass


class Reading:
    """A text that is read from its beginning to its end."""

    def __init__(self, text):
        self.text, self.at = text, 0

    def sign(self, signs):
        """Read just these signs."""
        if not self.text.startswith(signs, self.at):
            raise NoWriting()
        self.at += len(signs)

    def has(self, signs):
        return self.text.startswith(signs, self.at)

    def word(self, pattern):
        """Read all letters and digits that follow, which have to be of a pattern."""
        word = re.compile(r"[a-z0-9]*").match(self.text, self.at).group()
        if not re.fullmatch(pattern, word):
            raise NoWriting()
        self.at += len(word)
        return word

    def call(self):
        word = self.word("|".join(PARTS))
        found = [word]
        for pattern in PARTS[word]:
            self.sign(" ")
            if pattern is None:
                found.append(self.hands())
            else:
                part = self.word(pattern)
                found.append(part if pattern == NAME else int(part))
        return tuple(found)

    def calls(self):
        if self.has("idle"):
            self.sign("idle")
            return ()
        found = [self.call()]
        while self.has("; "):
            self.sign("; ")
            found.append(self.call())
        return tuple(found)

    def hands(self):
        self.sign("(")
        found = [self.calls()]
        while self.has(" | "):
            self.sign(" | ")
            found.append(self.calls())
        self.sign(")")
        return tuple(found)

    def end(self):
        if self.at != len(self.text):
            raise NoWriting()


def whole(text, read):
    """Return what a text writes by one of the ways above, to its very end."""
    reading = Reading(text)
    found = read(reading)
    reading.end()
    return found


def slow_hands(text):
    return whole(text, Reading.hands)


def slow_call(text):
    return whole(text, Reading.call)


def matched(pattern, text):
    if not re.fullmatch(pattern, text):
        raise NoWriting()
    return text


def pipes_in(hands):
    for calls in hands:
        for call in calls:
            if call[0] == "fork":
                yield from pipes_in(call[2])
            elif call[0] in ("put", "take", "drain", "close"):
                yield call[1]


def slow_work(text):
    lines = text.split("\n")
    if len(lines) != 4 or lines[3]:
        raise NoWriting()
    matched(r"hands .*", lines[0])
    matched(r"rooms( [1-9][0-9]*)*", lines[1])
    matched(rf"outs( ({NAME}):({NUMBER}))*", lines[2])
    hands = slow_hands(lines[0][6:])
    rooms = tuple(int(word) for word in lines[1].split()[1:])
    outs = tuple((word.split(":")[0], int(word.split(":")[1])) for word in lines[2].split()[1:])
    if any(pipe >= len(rooms) for pipe in pipes_in(hands)):
        raise NoWriting()
    return (hands, rooms, outs)


def slow_agent(text):
    if text == "-":
        return ()
    matched(rf"({NUMBER})(\.({NUMBER})\.({NUMBER}))*", text)
    return tuple(int(word) for word in text.split("."))


def slow_schedule(text):
    if text == "none":
        return []
    return [slow_agent(word) for word in text.split(" ")]


def slow_plan(text):
    rows = [line.split(" ") for line in text.split("\n")]
    if [len(rows), rows[-1]] != [18, [""]]:
        raise NoWriting()
    orders, wakes = {}, {}
    for row, deed in zip(rows[1:11], sorted(DEEDS)):
        if row[0] != deed or tuple(row[1:]) not in every_order(deed):
            raise NoWriting()
        orders[deed] = tuple(row[1:])
    for row, word in zip(rows[11:15], WORDS):
        if len(row) != 3 or row[:2] != ["wake", word] or row[2] not in SORTS:
            raise NoWriting()
        wakes[word] = row[2]
    for row, word, others in [(rows[0], "lock", ["each", "all"]), (rows[15], "left", ["no", "yes"]),
                              (rows[16], "passes", ["no", "yes"])]:
        if len(row) != 2 or row[0] != word or row[1] not in others:
            raise NoWriting()
    return Plan(rows[0][1], orders, wakes, rows[15][1] == "yes", rows[16][1] == "yes")
