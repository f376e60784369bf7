"""The machine that goes by a plan once more, each agent being one row of Python that halts ahead of each of its steps.

Where an agent halts, it yields a question: whether its next step can be done. What the step tells stands in result.
"""


def always():
    return True


class SlowMachine:
    def __init__(self, plan, work):
        self.plan = plan
        self.rooms = work[1]
        self.stores = {"in": {}, "out": {}}
        self.processes = {}
        self.told, self.caches, self.calls, self.lives, self.questions, self.asleep = {}, {}, {}, {}, {}, []
        self.pipes = [[] for _ in self.rooms]
        self.sealed = [False for _ in self.rooms]
        self.lists = {(kind, pipe): [] for kind in ("putters", "takers") for pipe in range(len(self.rooms))}
        self.holders = {}
        self.forking = []
        self.deeds_under_way = 0
        self.result = None
        self.start((), "root", None, work[0], {})
        self.live((), self.pager(work[2]))

    # Leading

    def live(self, agent, life):
        self.lives[agent] = life
        self.questions[agent] = next(life, None)

    def able(self):
        return sorted(agent for agent, can in self.questions.items() if can and can())

    def step(self, agent):
        self.questions[agent] = next(self.lives[agent], None)
        return self.result

    def state(self, hand):
        if hand in self.asleep:
            return "asleep"
        if self.questions[hand] is None:
            return "through"
        return "able" if self.questions[hand]() else "barred"

    def looks(self, work, all_processes):
        hands = sorted(self.told)
        here = {process: body for process, body in self.processes.items() if body["there"]}
        return (
            self.able(), hands, {hand: list(self.told[hand]) for hand in hands},
            [(hand, self.state(hand), self.caches[hand]) for hand in hands],
            {process: here[process]["table"] if process in here else None for process in all_processes},
            *[[(n, *row) for n, row in sorted(self.stores[sort].items()) if row[0]] for sort in ("in", "out")],
            sorted(body["name"] for body in here.values()), sorted(b["name"] for b in here.values() if b["up"]),
            [(self.pipes[pipe], *[[tuple(row) for row in self.lists[kind, pipe]] for kind in ("putters", "takers")])
             for pipe in range(len(work[1]))],
            [(process, [tuple(row) for row in self.lists["waiters", process]]) for process in sorted(here)],
        )

    # Stores

    def take(self, sort):
        number = 0
        while self.stores[sort].setdefault(number, [0, 0, 0])[0]:
            number += 1
        self.stores[sort][number][0] = 1
        return number

    def lower(self, sort, number):
        row = self.stores[sort][number]
        row[0] = max(0, row[0] - 1)

    # Locks

    def lock(self, process):
        return "all" if self.plan.lock == "all" else process

    def is_free(self, process):
        return self.lock(process) not in self.holders

    def is_free_of_all(self):
        return self.plan.lock == "each" or not self.holders

    def deed(self, name, holds, actions):
        """Do the steps of a deed; holds tells the process whose lock it holds, or "none" of the sort."""
        lock = self.lock(holds) if holds != "none" or self.plan.lock == "all" else None
        if lock is not None:
            self.holders[lock] = True
        self.deeds_under_way += 1
        for n, step in enumerate(self.plan.order(name)):
            if n:
                yield always
            self.result = (name, step)
            actions[step]()
        self.deeds_under_way -= 1
        if lock is not None:
            del self.holders[lock]

    # Processes

    def named(self, name):
        found = [body for body in self.processes.values() if body["there"] and body["name"] == name]
        return found[0] if found else None

    def start(self, process, name, keeps, hands, table):
        body = {"at": process, "name": name, "keeps": keeps, "table": table, "up": False, "ended": False,
                "there": True, "hands": [process + (m,) for m in range(len(hands))],
                "left": sum(len(calls) for calls in hands)}
        self.processes[process] = body
        self.lists["waiters", process] = []
        for hand in body["hands"]:
            self.told[hand], self.caches[hand] = [], {}
        closer = body["hands"][0] if body["left"] == 0 else None
        for hand, calls in zip(body["hands"], hands):
            self.live(hand, self.hand(hand, body, calls, hand == closer))

    def hand(self, hand, body, calls, closes):
        for k, call in enumerate(calls):
            self.calls[hand] = call
            act = getattr(self, "do_" + call[0], self.do_await)
            telling = yield from act(hand, body, call, k)
            self.told[hand].append(telling)
            body["left"] -= 1
            closes = body["left"] == 0
        if closes:
            yield from self.closing(body)

    def closing(self, body):
        if body["table"]:
            yield lambda: self.is_free(body["at"])
            yield from self.drop(body, list(body["table"]))
        yield self.is_free_of_all
        yield from self.deed("exit", "none", {
            "adopt": lambda: [child.update(keeps="root") for child in self.children(body)],
            "rouse": lambda: self.call(self.lists["waiters", ()], "all"),
            "end": lambda: body.update(ended=True, up=False),
            "wake": lambda: self.tell_parent(body),
        })

    def children(self, body):
        return [child for child in self.processes.values() if child["there"] and child["keeps"] == body["name"]]

    def tell_parent(self, body):
        parent = self.named(body["keeps"])
        if parent:
            self.call(self.lists["waiters", parent["at"]], "all")

    # Pages

    def do_read(self, hand, body, call, k):
        while True:
            yield lambda: self.frame(hand, body, call) is not None or self.is_free(body["at"])
            entry = self.frame(hand, body, call)
            if entry is not None:
                self.caches[hand][call[1]] = entry
                self.result = ("access", "done")
                row = self.stores["in"][entry[0]]
                if call[0] == "read":
                    return row[1 + call[2]]
                row[1 + call[2]] = call[3]
                return "done"
            entry = body["table"].get(call[1])
            if entry is None:
                self.result = ("fault", "none")
                return "none"
            if entry[0] == "out":
                yield from self.fetch(body, call[1])
            elif self.stores["in"][entry[1]][0] == 1:
                self.result = ("fault", "open")
                body["table"][call[1]] = ("in", entry[1], True)
            else:
                yield from self.copy(body, call[1])

    do_write = do_read

    def frame(self, hand, body, call):
        """Return what the cache has for the access of a call behind it, or None for a fault."""
        held = self.caches[hand].get(call[1])
        if held and (held[1] or call[0] == "read"):
            return held
        entry = body["table"].get(call[1], ("out",))
        if entry[0] == "in" and (entry[2] or call[0] == "read"):
            return entry[1:]
        return None

    def flush(self, body, pages):
        for hand in body["hands"]:
            self.caches[hand] = {page: held for page, held in self.caches[hand].items() if page not in pages}

    def fill(self, sort, number, values):
        self.stores[sort][number][1:] = values

    def do_map(self, hand, body, call, k):
        yield lambda: self.is_free(body["at"])
        if call[1] in body["table"]:
            self.result = ("map", "there")
            return "there"
        frame = self.take("in")
        yield from self.deed("map", body["at"], {
            "wipe": lambda: self.fill("in", frame, [0, 0]),
            "put": lambda: body["table"].update({call[1]: ("in", frame, True)}),
        })
        return "done"

    def copy(self, body, page):
        old, new = body["table"][page][1], self.take("in")
        return self.deed("copy", body["at"], {
            "shut": lambda: body["table"].pop(page, None),
            "flush": lambda: self.flush(body, [page]),
            "fill": lambda: self.fill("in", new, self.stores["in"][old][1:]),
            "put": lambda: body["table"].update({page: ("in", new, True)}),
            "lower": lambda: self.lower("in", old),
        })

    def fetch(self, body, page):
        slot, frame = body["table"][page][1], self.take("in")
        return self.deed("fetch", body["at"], {
            "load": lambda: self.fill("in", frame, self.stores["out"][slot][1:]),
            "put": lambda: body["table"].update({page: ("in", frame, True)}),
            "leave": lambda: self.lower("out", slot),
        })

    def drop(self, body, pages):
        entries = [body["table"][page] for page in pages]
        return self.deed("drop", body["at"], {
            "shut": lambda: [body["table"].pop(page) for page in pages],
            "flush": lambda: self.flush(body, pages),
            "lower": lambda: [self.lower(entry[0], entry[1]) for entry in entries],
        })

    def do_drop(self, hand, body, call, k):
        yield lambda: self.is_free(body["at"])
        if call[1] not in body["table"]:
            self.result = ("drop", "none")
            return "none"
        yield from self.drop(body, [call[1]])
        return "done"

    def pager(self, outs):
        for name, page in outs:
            yield lambda: self.pager_is_free(name)
            body = self.named(name)
            if body is None or body["ended"] or body["table"].get(page, ("out",))[0] == "out":
                self.result = ("out", "skip")
                continue
            yield from self.out(body, page)

    def pager_is_free(self, name):
        body = self.named(name)
        if body is None or body["ended"]:
            return self.is_free_of_all()
        return self.is_free(body["at"])

    def out(self, body, page):
        frame, slot = body["table"][page][1], self.take("out")
        return self.deed("out", body["at"], {
            "shut": lambda: body["table"].update({page: ("out", slot)}),
            "flush": lambda: self.flush(body, [page]),
            "save": lambda: self.fill("out", slot, self.stores["in"][frame][1:]),
            "lower": lambda: self.lower("in", frame),
        })

    def do_fork(self, hand, body, call, k):
        yield lambda: self.is_free(body["at"]) and call[1] not in self.forking
        if self.named(call[1]):
            self.result = ("fork", "there")
            return "there"
        self.forking.append(call[1])
        yield from self.deed("fork", body["at"], {
            "mark": lambda: body.update(table=self.shut_off(body["table"])),
            "flush": lambda: self.flush(body, list(range(9))),
            "raise": lambda: [self.raise_one(entry) for entry in body["table"].values()],
            "start": lambda: self.start(hand + (k,), call[1], body["name"], call[2], self.shut_off(body["table"])),
        })
        self.forking.remove(call[1])
        return "done"

    def shut_off(self, table):
        return {page: entry[:2] + (False,) if entry[0] == "in" else entry for page, entry in table.items()}

    def raise_one(self, entry):
        self.stores[entry[0]][entry[1]][0] += 1

    # Lists

    def call(self, row, sort):
        uncalled = [pair for pair in row if not pair[1]]
        for pair in uncalled[:{"none": 0, "one": 1, "all": None}[sort]]:
            pair[1] = True
            if pair[0] in self.asleep:
                self.asleep.remove(pair[0])

    def leave(self, row, hand):
        row[:] = [pair for pair in row if pair[0] != hand]

    def do_close(self, hand, body, call, k):
        yield self.is_free_of_all
        yield from self.deed("close", "none", {
            "seal": lambda: self.sealed.__setitem__(call[1], True),
            "wake": lambda: [self.call(self.lists[kind, call[1]], self.plan.wake("close"))
                             for kind in ("putters", "takers")],
        })
        return "done"

    def do_send(self, hand, body, call, k):
        yield self.is_free_of_all
        other = self.named(call[1])
        if other is None:
            self.result = ("send", "none")
            return "none"
        yield from self.deed("send", "none", {
            "post": lambda: other.update(up=not other["ended"]),
            "rouse": lambda: [self.call([pair for pair in row if pair[0] in other["hands"]], "all")
                              for row in self.lists.values()],
        })
        return "done"

    def could(self, call):
        """Tell whether a call of a pipe could be done."""
        many = len(self.pipes[call[1]])
        return self.sealed[call[1]] or (many < self.rooms[call[1]] if call[0] == "put" else many > 0)

    def tried(self, body, call):
        """Do a call if it can be done: tell (whether it is done, what it tells, whether values have moved)."""
        if call[0] == "wait":
            ended = sorted(child["name"] for child in self.children(body) if child["ended"])
            if ended:
                self.named(ended[0])["there"] = False
                return (True, ended[0], False)
            return (not self.children(body), "none", False)
        row = self.pipes[call[1]]
        if not self.could(call):
            return (False, None, False)
        if call[0] == "put":
            row[len(row):] = [] if self.sealed[call[1]] else [call[2]]
            return (True, "closed" if self.sealed[call[1]] else "done", not self.sealed[call[1]])
        if not row:
            return (True, "end", False)
        taken = row[:1] if call[0] == "take" else row[:]
        del row[:len(taken)]
        return (True, taken[0] if call[0] == "take" else tuple(taken), True)

    def do_await(self, hand, body, call, k):
        own = ("waiters", body["at"]) if call[0] == "wait" else ("putters" if call[0] == "put" else "takers", call[1])
        while True:
            yield lambda: hand not in self.asleep and self.is_free_of_all()
            if self.plan.lock == "all":
                self.holders["all"] = True
            self.deeds_under_way += 1
            telling = yield from self.await_once(hand, body, call, self.lists[own], own)
            self.deeds_under_way -= 1
            self.holders.pop("all", None)
            if telling is not None:
                return telling

    def await_once(self, hand, body, call, row, own):
        for n, step in enumerate(self.plan.order("await")):
            if n:
                yield always
            self.result = ("await", step)
            if step == "join":
                self.leave(row, hand)
                row.append([hand, False])
            elif step == "try":
                is_done, telling, has_moved = self.tried(body, call)
                if is_done:
                    self.leave(row, hand)
                    yield from self.behind_try(call, own, has_moved)
                    return telling
            elif body["up"]:
                body["up"] = False
                self.leave(row, hand)
                self.call(row, "one" if self.plan.passes else "none")
                return "broken"
        yield always
        self.result = ("await", "rest")
        if [hand, False] in row:
            self.asleep.append(hand)
        return None

    def behind_try(self, call, own, has_moved):
        if has_moved and self.plan.wake(call[0]) != "none":
            yield always
            self.result = ("await", "wake")
            self.call(self.lists["takers" if call[0] == "put" else "putters", call[1]], self.plan.wake(call[0]))
        if call[0] != "wait" and self.plan.left:
            yield always
            self.result = ("await", "left")
            if self.could(call):
                self.call(self.lists[own], "one")

    # Facts

    def facts(self):
        if self.deeds_under_way:
            return None
        live = [body for body in self.processes.values() if not body["ended"]]
        entries = [(body["at"], page, entry) for body in live for page, entry in body["table"].items()]
        wrong = set()
        for at, page, entry in entries:
            same = [one for one in entries if one[2][:2] == entry[:2]]
            if entry[0] == "in" and entry[2] and len(same) > 1:
                wrong.add("alone")
            if self.stores[entry[0]][entry[1]][0] < len(same):
                wrong.add("counted")
        for body in live:
            for hand in body["hands"]:
                for page, (frame, writable) in self.caches[hand].items():
                    if body["table"].get(page) not in [("in", frame, True), ("in", frame, writable)]:
                        wrong.add("cached")
                if body["up"] and hand in self.asleep:
                    wrong.add("heeded")
        for (kind, pipe), row in self.lists.items():
            if kind != "waiters" and self.could(("put" if kind == "putters" else "take", pipe)):
                if [hand for hand, _ in row if hand in self.asleep] and not [hand for hand, called in row if called]:
                    wrong.add("called")
        return sorted(wrong)

    def is_lost(self):
        def could(hand):
            body, call = self.processes[hand[:-1]], self.calls[hand]
            if call[0] != "wait":
                return body["up"] or self.could(call)
            children = self.children(body)
            return body["up"] or not children or any(child["ended"] for child in children)
        return not self.able() and any(could(hand) for hand in self.asleep)
