"""Frames: texts under way in a run."""

from leapwork.blocks import letters_of_text, own_of

NO_ROW = (0, ())


class Frame:
    """A text under way: where it is, what its letters are, and the way that it went.

    Its way, and the fresh letters of this way with their worths, have of each
    while only what came since the while's head was come to last.
    """

    def __init__(self, text, worths, plan, used):
        self.text = text
        self.name = text[1]
        # What the run goes by, and where it goes on in it.
        self.plan = plan
        self.at = plan.first
        # The statement at which the caller uses it; None of a work, and of a claim that is asked for.
        self.used = used
        self.table = table_of(text, worths)
        self.stack = []
        self._way = []
        self._met = [(("input", letter), worth) for (letter, _), worth in zip(letters_of_text(text), worths)]
        self._heads = {}
        self._waits = None

    def step(self, word, number):
        """Take a step at a fork."""
        self._way.append((word, number))

    def come_to(self, number):
        """Come to a while, ahead of its first round."""
        self._heads[number] = (len(self._way), len(self._met))

    def head(self, number, letters):
        """Come to a while's head, at which these letters, and left, are fresh; what its last round was is gone."""
        steps, many = self._heads[number]
        self._way = self._way[:steps]
        self._met = self._met[:many]
        for letter in letters + ["left"]:
            self._met.append((("loop", number, letter), self.table[letter]))

    def wait(self, number, letter):
        """Wait at a do for what it gives to this letter."""
        self._waits = (number, letter)

    def take(self, worth):
        """Go on with what the do gave."""
        number, letter = self._waits
        self.table[letter] = worth
        self._met.append((("do", number), worth))

    def pay(self, cost):
        """Pay from what is left, which is None where either has no worth."""
        left = self.table["left"]
        self.table["left"] = None if left is None or cost is None else left - cost

    def told(self, first):
        """The way, and the fresh letters' worths; first is the place at which an all isn't so, else None."""
        met = dict(self._met)
        if first is not None:
            met[("fresh",)] = first
        return tuple(self._way), met


def table_of(text, worths):
    """The table with which a text begins, handed these worths for its inputs."""
    table = {letter: worth for (letter, _), worth in zip(letters_of_text(text), worths)}
    for letter, kind in own_of(text):
        table[letter] = 0 if kind == "number" else NO_ROW
    return table
