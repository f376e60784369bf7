"""Likeness: whether a run is like the plain machine."""

from belowall.kinds import are_counts, is_agent, is_count, is_integer
from belowall.runs import led, spans_of_calls, spans_of_closings
from belowall.stands import Cast, can_end, ended_behind, first_stand, has_ended, ways_of_call
from belowall.stepping import beginning


class Case:
    """What a run asks of a row of doings; what is begun and not done has None for its last step."""

    def __init__(self, plan, work, schedule):
        kernel = beginning(plan, work)
        rows = led(kernel, schedule)
        calls = spans_of_calls(kernel, rows)
        closings = spans_of_closings(kernel, rows)
        self.cast = Cast(work)
        self.call_spans = [
            [calls[hand, k] for k in range(len(self.cast.call_rows[h])) if (hand, k) in calls]
            for hand, h in self.cast.hand_at.items()
        ]
        self.end_spans = [closings.get(process) for process in self.cast.row_of_processes]
        # A moment that is behind all steps: by then nothing has to be done.
        self.never = len(schedule)

    def next_span(self, stand, h):
        """Return the (first, last, telling) of the next call of a hand, if it has begun in the run, or None."""
        number = 0 if stand[0][h] is None else stand[0][h]
        spans = self.call_spans[h]
        return spans[number] if number < len(spans) else None

    def next_end(self, stand, p):
        """Return the (first, last) of the closing of a process, if it has begun, and has not ended yet, or None."""
        return None if has_ended(self.cast, stand, p) else self.end_spans[p]

    def deadline(self, stand):
        """Return the moment behind which nothing can be done till something else is done, or never."""
        spans = [self.next_span(stand, h) for h in range(len(self.call_spans))]
        ends = [self.next_end(stand, p) for p in range(len(self.end_spans))]
        return min([span[1] for span in spans + ends if span is not None and span[1] is not None], default=self.never)

    def ways_in(self, stand, h, span):
        """Return the list of tuples (word, telling, stand behind) in which a hand's next call can be done as told."""
        ways = ways_of_call(self.cast, stand, h)
        return [way for way in ways if span[1] is None or way[1] == span[2]]


def options_of_calls(case, stand, deadline):
    """Return the list of tuples (last, word, who, telling, first, stand behind) of the calls that can be done next."""
    found = []
    for h, hand in enumerate(case.cast.row_of_hands):
        span = case.next_span(stand, h)
        if span is None or stand[0][h] is None or span[0] > deadline:
            continue
        for word, telling, behind in case.ways_in(stand, h, span):
            # What need not be done, and would change nothing, may as well be left out.
            if span[1] is not None or behind[1:] != stand[1:]:
                last = case.never if span[1] is None else span[1]
                found.append((last, word, hand, telling, span[0], behind))
    return found


def options_of_ends(case, stand, deadline):
    """Return the list of tuples (last, word, who, telling, first, stand behind) of the ends that can be done next."""
    found = []
    for p, process in enumerate(case.cast.row_of_processes):
        span = case.next_end(stand, p)
        if span is not None and span[0] <= deadline and can_end(case.cast, stand, p):
            last = case.never if span[1] is None else span[1]
            found.append((last, "end", process, None, span[0], ended_behind(stand, p)))
    return found


def last_of(option):
    """Return by when an option has to be done."""
    return option[0]


def options(case, stand):
    """Return the list of what can be done next, what has to be done first at its end."""
    deadline = case.deadline(stand)
    found = options_of_calls(case, stand, deadline) + options_of_ends(case, stand, deadline)
    return sorted(found, key=last_of, reverse=True)


def path_through(case):
    """Return a list of options by which all is done that has to be, or None."""
    stand = first_stand(case.cast)
    seen = {stand: True}
    path = []
    # Of each stand on the path, and of the one behind it, the options that are left.
    rest = [options(case, stand)]
    while case.deadline(stand) < case.never:
        while not rest[-1]:
            if not path:
                return None
            rest.pop()
            path.pop()
        option = rest[-1].pop()
        if option[-1] not in seen:
            stand = option[-1]
            seen[stand] = True
            path.append(option)
            rest.append(options(case, stand))
    return path


def likeness(plan, work, schedule):
    """Return a row of doings of the plain machine that a run is like, or None if there is none."""
    path = path_through(Case(plan, work, schedule))
    if path is None:
        return None
    moment = 0
    found = []
    for _, word, who, telling, first, _ in path:
        moment = max(moment, first)
        found.append((moment, word, who, telling))
    return found


def is_like(plan, work, schedule):
    """Tell whether a run is like the plain machine."""
    return path_through(Case(plan, work, schedule)) is not None


def is_same(telling, thing):
    """Tell whether thing, any value, is what is told; truths are never taken for integers."""
    if isinstance(telling, tuple):
        if not isinstance(thing, tuple) or len(telling) != len(thing):
            return False
        return all([is_same(one, other) for one, other in zip(telling, thing)])
    if is_integer(telling):
        return is_integer(thing) and telling == thing
    return isinstance(thing, str) and telling == thing


def has_doing_form(thing):
    """Tell whether thing is a tuple of four, a moment first and a string second."""
    return isinstance(thing, tuple) and len(thing) == 4 and is_count(thing[0]) and isinstance(thing[1], str)


def is_within(moment, span):
    """Tell whether a moment is not ahead of the first step of a span, nor behind its last one."""
    return span[0] <= moment and (span[1] is None or moment <= span[1])


def behind_end(case, stand, moment, who, telling):
    """Return the stand behind an end as a row tells it, or None if it cannot stand there so."""
    p = case.cast.process_at.get(who) if are_counts(who) else None
    span = None if p is None else case.next_end(stand, p)
    if span is None or not is_within(moment, span) or telling is not None or not can_end(case.cast, stand, p):
        return None
    return ended_behind(stand, p)


def behind_call(case, stand, row):
    """Return the stand behind a call, done or broken off, as a row tells it, or None if it cannot stand there so."""
    moment, word, who, telling = row
    h = case.cast.hand_at.get(who) if is_agent(who) else None
    span = None if h is None or stand[0][h] is None else case.next_span(stand, h)
    if span is None or not is_within(moment, span):
        return None
    for at, told, behind in case.ways_in(stand, h, span):
        if at == word and is_same(told, telling):
            return behind
    return None


def is_likeness(plan, work, schedule, thing):
    """Tell whether thing, any value, is a row of doings of the plain machine that a run is like."""
    if not isinstance(thing, list):
        return False
    case = Case(plan, work, schedule)
    stand = first_stand(case.cast)
    moment = 0
    for row in thing:
        if not has_doing_form(row) or row[0] < moment:
            return False
        moment, word, who, telling = row
        stand = behind_end(case, stand, moment, who, telling) if word == "end" else behind_call(case, stand, row)
        if stand is None:
            return False
    return case.deadline(stand) == case.never
