"""Where a run, or a way, goes from each statement of a text."""

from leapwork.asked import places_asked
from leapwork.blocks import block_of, blocks_in, numbered, writings_in

# The place behind a text's last statement.
END = 0


class Flow:
    """A text's statements by their numbers, and where one goes on.

    A place is a statement's number, END, or, behind the last statement of a
    while's round, the while's number below 0.
    """

    def __init__(self, text):
        block = block_of(text)
        self.first = 1 if block else END
        self.many = len(numbered(block))
        self._statements = {number: statement for number, statement in enumerate(numbered(block), start=1)}
        self._behind = {}
        self._inside = {}
        self._places = {}
        self._add_block(block, 1, END)

    def statement(self, number):
        """The statement of this number."""
        return self._statements[number]

    def behind(self, number):
        """The place behind a statement."""
        return self._behind[number]

    def inside(self, number):
        """The places at which a statement's blocks begin."""
        return self._inside[number]

    def places_asked(self, number):
        """What a work's statement asks of its places."""
        if number not in self._places:
            self._places[number] = places_asked(self._statements[number])
        return self._places[number]

    def written(self, number):
        """The own letters that are written anywhere within a while, each once."""
        _, _, _, block = self._statements[number]
        return list({letter: True for _, letter in writings_in(block)})

    def _add_block(self, block, number, end):
        """Add a block, whose first statement has this number, and behind which the place end is."""
        for at, statement in enumerate(block):
            self._behind[number] = number + _many_in(statement) if at + 1 < len(block) else end
            back = -number if statement[0] == "while" else self._behind[number]
            begins = []
            first = number + 1
            for inner in blocks_in(statement):
                begins.append(first if inner else back)
                self._add_block(inner, first, back)
                first += len(numbered(inner))
            self._inside[number] = begins
            number += _many_in(statement)


def _many_in(statement):
    """How many statements a statement is, those within it counted."""
    return len(numbered((statement,)))
