"""A run: its frames, its ticks, its looks, and how it ends."""

from leapwork.asked import IS_LEFT, is_left_of
from leapwork.blocks import oaths_of
from leapwork.books import fitting, notions_of
from leapwork.flow import Flow
from leapwork.frames import Frame, table_of
from leapwork.inputs import MOST_SIZE, is_long
from leapwork.looks import Firm, Look
from leapwork.names import is_whole

_MOST_FRAMES = 20


class Ended(Exception):
    """The run is over; end is how it ended."""

    def __init__(self, end):
        super().__init__("the run is over")
        self.end = end


class Run:
    """A run by the statements themselves."""

    def __init__(self, book, ticks, looks):
        self.book = book
        # Whether its looks are asked; else only what it does is done.
        self.looks = looks
        self.frames = []
        # How many uses were begun within the outermost one.
        self.begun = 0
        self._firm = Firm(notions_of(book))
        self._most_ticks = ticks
        self._ticks = 0
        self._passed = {}
        self._plans = {}

    def gone(self, text, inputs, step):
        """Go step by step from the text's begin to the run's end: (end, ticks, passed)."""
        try:
            self._ask_own_needs(text, inputs)
            self.begin(text, inputs, None)
            while True:
                step(self, self.frames[-1])
        except Ended as over:
            return over.end, self._ticks, list(self._passed)

    def plan_of(self, text):
        """What the run goes by in a text."""
        return Flow(text)

    def worth(self, thing, table):
        """The worth of a term, row term or plain saying."""
        return Look(self._firm).worth(thing, table)

    def ask(self, frame, look, saying, table):
        """Ask one look: the run ends where it isn't so, and goes on where it is, or has no worth."""
        truth, first = Look(self._firm).seen(saying, table)
        if truth is None:
            self.pass_over(frame.name, look)
        elif not truth:
            self.end_at(frame, look, first)

    def end_at(self, frame, look, first):
        """End the run at a look that isn't so."""
        way, met = frame.told(first)
        raise Ended(("break", frame.name, look, way, met))

    def ask_each(self, frame, number, word, sayings, table):
        """Ask the looks of one statement that have one word."""
        for part, saying in enumerate(sayings):
            self.ask(frame, (number, word, part), saying, table)

    def pass_over(self, owner, look):
        """Tell, once, what is passed over."""
        self._passed[(owner, look)] = True

    def begin(self, text, worths, used):
        """Begin a frame."""
        name = text[1]
        if name not in self._plans:
            self._plans[name] = self.plan_of(text)
        frame = Frame(text, worths, self._plans[name], used)
        self.frames.append(frame)
        self.enter(frame)

    def enter(self, frame):
        """Go into a new frame."""
        self.ask_spends(frame)

    def ask_spends(self, frame):
        """Ask what a frame's begin asks; what it spends is left then."""
        if self.looks:
            _, _, spends = oaths_of(frame.text)
            self.ask(frame, (0, "spends", 0), is_left_of(spends), frame.table)
            frame.table["left"] = self.worth(spends, frame.table)

    def tick(self):
        """Begin a tick."""
        if self._ticks == self._most_ticks:
            raise Ended(("tired",))
        self._ticks += 1

    def round_of(self, frame, number):
        """Begin a round of a while."""
        self.tick()
        if self.looks:
            frame.pay(1)
            self.ask(frame, (number, "round", 0), IS_LEFT, frame.table)

    def do(self, frame, number, statement, worths):
        """Do a work, handed these worths."""
        _, letter, name, _ = statement
        text = fitting(self.book, frame.text, statement)
        if text is None:
            raise Ended(("stuck", name))
        table = table_of(text, worths)
        if self.looks:
            self.ask_needs(frame, number, text, table)
        if len(self.frames) == _MOST_FRAMES:
            raise Ended(("deep",))
        self.tick()
        if self.looks:
            self.pay_for(frame, number, text, table)
        for worth in worths:
            end_if_long(worth)
        frame.wait(number, letter)
        self.begin(text, worths, None)

    def give(self, worth):
        """Give a worth to the caller of the last frame."""
        self.end_frame(worth)
        self.frames[-1].take(worth)

    def end_frame(self, worth):
        """End the last frame, and the run with it where it is the only one."""
        self.frames.pop()
        if not self.frames:
            raise Ended(("gave", worth))

    def ask_gives(self, frame, number, worth):
        """Ask of what is given what the text gives."""
        _, gives, _ = oaths_of(frame.text)
        self.ask_each(frame, number, "gives", gives, {**frame.table, "given": worth})

    def ask_needs(self, frame, number, text, table):
        """Ask of a do or a use what the callee needs."""
        needs, _, _ = oaths_of(text)
        self.ask_each(frame, number, "needs", needs, table)

    def pay_for(self, frame, number, text, table):
        """Pay for a do or a use, and ask what is left."""
        _, _, spends = oaths_of(text)
        cost = self.worth(spends, table)
        frame.pay(None if cost is None else cost + 1)
        self.ask(frame, (number, "left", 0), IS_LEFT, frame.table)

    def _ask_own_needs(self, text, inputs):
        """Ask of what is handed in what the text needs."""
        if not self.looks:
            return
        table = table_of(text, inputs)
        needs, _, _ = oaths_of(text)
        for part, need in enumerate(needs):
            truth, _ = Look(self._firm).seen(need, table)
            if truth is None:
                self.pass_over(text[1], (0, "needs", part))
            elif not truth:
                raise Ended(("unfit", part))


def end_if_long(worth):
    """End the run where a number is too great."""
    if is_whole(worth) and is_long(worth):
        raise Ended(("great",))


def end_if_roomy(size):
    """End the run where a room is too great."""
    if size > MOST_SIZE:
        raise Ended(("great",))
