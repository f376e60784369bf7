"""The plain machine once more, by names and in one piece, for the tests to compare with; and works by chance."""


class SlowPlain:
    """One dict of everything, copied for each doing; a doing that cannot be done tells None."""

    def __init__(self, work):
        self.all = {
            "calls": {(m,): list(calls) for m, calls in enumerate(work[0])},
            "of": {(m,): () for m in range(len(work[0]))},
            "told": {(m,): [] for m in range(len(work[0]))},
            "name": {(): "root"},
            "parent": {(): None},
            "pages": {(): {}},
            "up": [],
            "ended": [],
            "gone": [],
            "rooms": list(work[1]),
            "pipes": [[] for _ in work[1]],
            "sealed": [],
        }

    def here(self):
        return sorted(process for process in self.all["name"] if process not in self.all["gone"])

    def next_call(self, hand):
        calls, told = self.all["calls"][hand], self.all["told"][hand]
        return calls[len(told)] if len(told) < len(calls) else None

    def children(self, process, just_ended):
        found = [child for child in self.here() if self.all["parent"][child] == process]
        return [child for child in found if child in self.all["ended"] or not just_ended]

    def able(self):
        found = []
        for hand in sorted(self.all["calls"]):
            call = self.next_call(hand)
            if call is None:
                continue
            mine = self.all["of"][hand]
            pipe = self.all["pipes"][call[1]] if call[0] in ("put", "take", "drain") else []
            sealed = call[0] in ("put", "take", "drain") and call[1] in self.all["sealed"]
            stuck = {
                "put": lambda: not sealed and len(pipe) >= self.all["rooms"][call[1]],
                "take": lambda: not sealed and pipe == [],
                "drain": lambda: not sealed and pipe == [],
                "wait": lambda: self.children(mine, False) != [] and self.children(mine, True) == [],
            }.get(call[0], lambda: False)
            if not stuck():
                found.append(hand)
        return found

    def breakable(self):
        calls = {hand: self.next_call(hand) for hand in sorted(self.all["calls"])}
        return [hand for hand, call in calls.items()
                if call and call[0] in ("put", "take", "drain", "wait") and self.all["of"][hand] in self.all["up"]]

    def endable(self):
        return [process for process in self.here() if process not in self.all["ended"]
                and all(self.next_call(hand) is None for hand, mine in self.all["of"].items() if mine == process)]

    def do(self, hand, name=None):
        call, mine = self.next_call(hand), self.all["of"][hand]
        page = self.all["pages"][mine].get(call[1]) if call[0] in ("map", "drop", "read", "write") else None
        names = {self.all["name"][process]: process for process in self.here()}
        telling = "done"
        if call[0] == "map":
            telling = "done" if page is None else "there"
            self.all["pages"][mine].setdefault(call[1], [0, 0])
        elif call[0] in ("drop", "read", "write") and page is None:
            telling = "none"
        elif call[0] == "drop":
            self.all["pages"][mine].pop(call[1])
        elif call[0] == "read":
            telling = page[call[2]]
        elif call[0] == "write":
            page[call[2]] = call[3]
        elif call[0] == "fork" and call[1] in names:
            telling = "there"
        elif call[0] == "fork":
            self.fork(hand, mine, call)
        elif call[0] == "send" and call[1] not in names:
            telling = "none"
        elif call[0] == "send":
            if names[call[1]] not in self.all["ended"] + self.all["up"]:
                self.all["up"].append(names[call[1]])
        elif call[0] == "wait":
            ended = sorted(self.all["name"][child] for child in self.children(mine, True))
            telling = (name or ended[0]) if ended else "none"
            if ended:
                self.all["gone"].append(names[telling])
        else:
            telling = self.pipe(call)
        self.all["told"][hand].append(telling)
        return telling

    def fork(self, hand, mine, call):
        process = hand + (len(self.all["told"][hand]),)
        self.all["name"][process], self.all["parent"][process] = call[1], mine
        self.all["pages"][process] = {page: list(cells) for page, cells in self.all["pages"][mine].items()}
        for m, calls in enumerate(call[2]):
            self.all["calls"][process + (m,)] = list(calls)
            self.all["of"][process + (m,)] = process
            self.all["told"][process + (m,)] = []

    def pipe(self, call):
        row, sealed = self.all["pipes"][call[1]], call[1] in self.all["sealed"]
        if call[0] == "close":
            self.all["sealed"].append(call[1])
            return "done"
        if call[0] == "put":
            if not sealed:
                row.append(call[2])
            return "closed" if sealed else "done"
        if not row:
            return "end"
        taken = row[:1] if call[0] == "take" else row[:]
        del row[:len(taken)]
        return taken[0] if call[0] == "take" else tuple(taken)

    def break_off(self, hand):
        self.all["up"].remove(self.all["of"][hand])
        self.all["told"][hand].append("broken")

    def end(self, process):
        self.all["ended"].append(process)
        self.all["pages"][process] = {}
        self.all["up"] = [other for other in self.all["up"] if other != process]
        for child in self.children(process, False):
            self.all["parent"][child] = ()

    def stand(self):
        """Return all by which two are told apart."""
        here = self.here()
        return (self.all["told"], [(process, self.all["pages"][process], self.all["parent"][process],
                                    process in self.all["up"], process in self.all["ended"]) for process in here],
                self.all["pipes"], [pipe in self.all["sealed"] for pipe in range(len(self.all["pipes"]))])


def call_by_chance(chance, deep, pipes):
    words = ["map", "drop", "read", "write", "wait", "send", "put", "take", "drain", "close"]
    word = chance.choice((words if pipes else words[:6]) + ["fork"] * (3 if deep else 0) + ["wait"])
    page, pipe = chance.randrange(2), chance.randrange(pipes) if pipes else 0
    name = chance.choice(["a", "b", "none", "root"])
    return {
        "map": ("map", page), "drop": ("drop", page), "read": ("read", page, chance.randrange(2)),
        "write": ("write", page, chance.randrange(2), chance.randrange(1, 9)), "wait": ("wait",),
        "send": ("send", name), "put": ("put", pipe, chance.randrange(9)), "take": ("take", pipe),
        "drain": ("drain", pipe), "close": ("close", pipe),
        "fork": ("fork", name, hands_by_chance(chance, deep - 1, pipes) if word == "fork" else ((),)),
    }[word]


def hands_by_chance(chance, deep, pipes):
    many = chance.choice([1, 1, 2])
    return tuple(tuple(call_by_chance(chance, deep, pipes) for _ in range(chance.randrange(6))) for _ in range(many))


def work_by_chance(chance):
    pipes = chance.randrange(3)
    return (hands_by_chance(chance, 3, pipes), tuple(chance.randrange(1, 4) for _ in range(pipes)), ())
