"""The errors of this package; each keeps what it was made with, the objects themselves."""


class KernelError(ValueError):
    """What all errors of this package are; it is raised nowhere itself."""


class Wrong(KernelError):
    """The argument at this place is not as described."""

    def __init__(self, place):
        self.place = place


class NoHand(KernelError):
    """This is no hand."""

    def __init__(self, hand):
        self.hand = hand


class NoProcess(KernelError):
    """This is no process."""

    def __init__(self, process):
        self.process = process


class NoDeed(KernelError):
    """This is no deed."""

    def __init__(self, deed):
        self.deed = deed


class NoWord(KernelError):
    """This is none of the words by which hands are woken."""

    def __init__(self, word):
        self.word = word


class Stuck(KernelError):
    """This agent cannot do what it is told to do."""

    def __init__(self, agent):
        self.agent = agent


class NoChild(KernelError):
    """No child with this name can be told."""

    def __init__(self, name):
        self.name = name


class NoPipe(KernelError):
    """This is no pipe."""

    def __init__(self, pipe):
        self.pipe = pipe


class NoText(KernelError):
    """The text writes nothing that can be read."""


class Nothing(KernelError):
    """There is nothing to take back, or to do anew."""


class Fails(KernelError):
    """Behind this step the fact would not be so."""

    def __init__(self, fact, step):
        self.fact = fact
        self.step = step


class NoFact(KernelError):
    """This is no fact."""

    def __init__(self, fact):
        self.fact = fact


class There(KernelError):
    """The fact is watched already."""

    def __init__(self, fact):
        self.fact = fact


class Absent(KernelError):
    """The fact is not watched."""

    def __init__(self, fact):
        self.fact = fact


class Busy(KernelError):
    """The machine is not quiet."""


class Stopped(KernelError):
    """The agent with this index was refused."""

    def __init__(self, index):
        self.index = index


class NoCommand(KernelError):
    """The line is no command."""
