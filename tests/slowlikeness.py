"""Likeness once more, by Plains alone: rows are tried one by one, and looked at one doing behind another."""

from belowall.errors import NoChild, Stuck
from belowall.plain import Plain
from belowall.runs import closings, history


class TooMany(Exception):
    """There are more rows to try than a test has time for."""


def spans_of(plan, work, schedule):
    """Return the dicts from (hand, number) to (first, last, telling), and from processes to (first, last)."""
    calls = {row[:2]: row[2:] for row in history(plan, work, schedule)}
    ends = {row[0]: row[1:] for row in closings(plan, work, schedule)}
    return calls, ends


def tried(plain, act):
    """Return a copy with an act done, and what it tells, or None."""
    other = plain.copied()
    try:
        return other, act(other)
    except (Stuck, NoChild):
        return None


def doings(plain):
    """Return all that can be done next: tuples (word, who, telling, Plain behind)."""
    found = []
    for hand in plain.able():
        # With each name that can be told; without a name, where the call is no wait that tells one.
        named = [tried(plain, lambda other: other.do(hand, name)) for name in plain.there()]
        told = [row for row in named if row] or [tried(plain, lambda other: other.do(hand))]
        found += [("do", hand, telling, behind) for behind, telling in told]
    for hand in plain.breakable():
        found.append(("break", hand, "broken", tried(plain, lambda other: other.break_off(hand))[0]))
    for process in plain.endable():
        found.append(("end", process, None, tried(plain, lambda other: other.end(process))[0]))
    return found


def span_of(plain, spans, word, who):
    """Return (first, last, telling, key) of what a doing stands for, or None if it has not begun in the run."""
    calls, ends = spans
    if word == "end":
        return None if who not in ends else (*ends[who], None, who)
    key = (who, len(plain.told()[who]))
    return None if key not in calls else (*calls[key], key)


def slow_is_like(plan, work, schedule, most=20000):
    """Tell whether a run is like the plain machine, by trying all rows; each doing as early as can be."""
    spans = spans_of(plan, work, schedule)
    needed = {key for part in spans for key, span in part.items() if span[1] is not None}
    rest, tries = [(Plain(work), 0, frozenset())], 0
    while rest:
        plain, moment, done = rest.pop()
        tries += 1
        if tries > most:
            raise TooMany()
        if needed <= done:
            return True
        for word, who, telling, behind in doings(plain):
            span = span_of(plain, spans, word, who)
            if span is None:
                continue
            first, last, told, key = span
            at = max(moment, first)
            if last is None or (at <= last and telling == told and type(telling) is type(told)):
                rest.append((behind, at, done | {key}))
    return False


def slow_is_likeness(plan, work, schedule, rows):
    """Tell whether rows, a list of tuples of four, each of the right kinds, are a likeness."""
    spans = spans_of(plan, work, schedule)
    needed = {key for part in spans for key, span in part.items() if span[1] is not None}
    plain, last_moment, done = Plain(work), 0, set()
    for moment, word, who, telling in rows:
        if moment < last_moment:
            return False
        last_moment = moment
        found = [row for row in doings(plain) if row[:2] == (word, who) and repr(row[2]) == repr(telling)]
        span = span_of(plain, spans, word, who) if found else None
        if span is None or span[3] in done or moment < span[0]:
            return False
        if span[1] is not None and (moment > span[1] or repr(span[2]) != repr(telling)):
            return False
        done.add(span[3])
        plain = found[0][3]
    return needed <= done
