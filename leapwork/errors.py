"""What the program refuses: one error class for each kind of refusal.

No message shows what was handed in: that may be anything, also a number that
is too great for Python to write out.
"""


class WorkError(ValueError):
    """The base of all refusals."""


class NoText(WorkError):
    """What was handed in is no text; word is what it breaks first."""

    def __init__(self, word):
        super().__init__("this is no text")
        self.word = word


class NoWriting(WorkError):
    """What was handed in is no writing; place is the first sign that can't stand there."""

    def __init__(self, place):
        super().__init__("this is no writing")
        self.place = place


class NoName(WorkError):
    """Nothing that was asked for stands under this name."""

    def __init__(self, name):
        super().__init__("nothing of the kind stands under this name")
        self.name = name


class Standing(WorkError):
    """Something stands there already; name is None where it is a paper."""

    def __init__(self, name):
        super().__init__("something stands there already")
        self.name = name


class Full(WorkError):
    """No more than this many may stand."""

    def __init__(self, most):
        super().__init__("as many as may stand do stand")
        self.most = most


class NoMark(WorkError):
    """No mark has this number."""

    def __init__(self, number):
        super().__init__("no mark has this number")
        self.number = number


class BadLine(WorkError):
    """Lines don't make a line so; place is the first pair of weights that isn't right, -1 the divisor."""

    def __init__(self, place):
        super().__init__("no line is made so")
        self.place = place


class NoInputs(WorkError):
    """These are no inputs of the text; made of a text."""


class NoTicks(WorkError):
    """So many ticks can't be handed in; made of a text."""


class NoWorths(WorkError):
    """These are no worths for the goal's letters; made of a text."""


class NoGoal(WorkError):
    """No goal that a leap may be asked of has this number; made of a text."""


class NoPaper(WorkError):
    """No paper stands or may stand there; made of a text."""
