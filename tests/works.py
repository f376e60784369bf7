"""Works by chance, within the bounds of the document."""

NAMES = ["a", "a", "b", "b", "none", "broken", "root"]
PIPE_WORDS = ["put", "put", "take", "take", "drain", "close"]


class Drawing:
    """Draws works with at most seven hands in at most five processes; alone: one hand in each."""

    def __init__(self, chance, alone=False, liked=()):
        self.chance = chance
        self.alone = alone
        self.pages = chance.randrange(1, 4)
        self.pipes = chance.randrange(3)
        words = ["map", "drop", "read", "read", "write", "write", "wait", "send"] + list(liked) * 2
        self.words = words + PIPE_WORDS * (self.pipes > 0)
        self.words = [word for word in self.words if self.pipes or word not in PIPE_WORDS]
        self.hands_left, self.processes_left = 6, 4

    def call(self, deep):
        chance = self.chance
        can_fork = deep and self.hands_left and self.processes_left
        word = chance.choice(self.words + ["fork"] * (2 if can_fork else 0))
        page, pipe = chance.randrange(self.pages), chance.randrange(max(1, self.pipes))
        if word == "fork":
            self.hands_left -= 1
            self.processes_left -= 1
            return ("fork", chance.choice(NAMES[:4] if chance.random() < 0.7 else NAMES), self.hands(deep - 1))
        return {
            "map": ("map", page), "drop": ("drop", page), "read": ("read", page, chance.randrange(2)),
            "write": ("write", page, chance.randrange(2), chance.randrange(1, 9)), "wait": ("wait",),
            "send": ("send", chance.choice(NAMES)), "put": ("put", pipe, chance.randrange(9)),
            "take": ("take", pipe), "drain": ("drain", pipe), "close": ("close", pipe),
        }[word]

    def hands(self, deep):
        many = 1
        while not self.alone and self.hands_left and self.chance.random() < 0.4:
            many += 1
            self.hands_left -= 1
        return tuple(self.calls(deep) for _ in range(many))

    def calls(self, deep):
        first = [("map", 0)] if self.chance.random() < 0.5 else []
        return tuple(first + [self.call(deep) for _ in range(self.chance.randrange(8))])

    def work(self):
        hands = self.hands(3)
        rooms = tuple(self.chance.randrange(1, 4) for _ in range(self.pipes))
        outs = [(self.chance.choice(["root", "root", "a", "b"]), self.chance.randrange(self.pages)) for _ in range(3)]
        return (hands, rooms, tuple(outs[:self.chance.randrange(4)]))


LIKED = [(), (), ("put", "take", "drain"), ("read", "write"), ("wait", "send"), ("close", "put", "take"), ("drop", "map")]


def draw(chance, alone=False):
    """Return a work by chance."""
    return Drawing(chance, alone, chance.choice(LIKED)).work()
