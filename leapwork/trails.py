"""Trails: ways through texts, gone with terms laid for letters, or with worths."""

from leapwork.asked import IS_LEFT, LEFT_BEHIND_CALL, LEFT_BEHIND_ROUND, contrary, has_room, is_left_of
from leapwork.blocks import letters_of_text, oaths_of, own_of
from leapwork.books import fitting
from leapwork.cases import NOUGHT
from leapwork.flow import END


class Trail:
    """A way through a text, as far as it was gone.

    Its side says what stands for letters, and takes what is asked:
    fresh(letter, kind) is what stands for a fresh letter, laid(thing, table)
    what a term or row term comes to, suppose(saying, table) takes what is
    supposed, and look(way, look, sayings, table) a look, with the sayings
    that are so where it isn't.
    """

    def __init__(self, book, text, flow, side):
        self.way = ()
        self.side = side
        self._book = book
        self._text = text
        self._flow = flow
        self._at = flow.first
        self._table = {}

    def begin(self):
        """Go in at the text's begin."""
        needs, _, spends = oaths_of(self._text)
        for letter, kind in letters_of_text(self._text):
            self._table[letter] = self.side.fresh(("input", letter), kind)
        for letter, kind in own_of(self._text):
            self._table[letter] = self.side.laid(NOUGHT if kind == "number" else ("room", NOUGHT), {})
        self._suppose_each(needs, self._table)
        self._look((0, "spends", 0), is_left_of(spends), self._table)
        self._table["left"] = self.side.laid(spends, self._table)

    def forked(self, side):
        """The same trail once more, with a side of its own."""
        other = Trail(self._book, self._text, self._flow, side)
        other.go_from(self.way, self._at, self._table)
        return other

    def go_from(self, way, place, table):
        """Go on from where another trail is."""
        self.way = way
        self._at = place
        self._table = dict(table)

    def branches(self):
        """Go on to the next fork: its branches (step, what is supposed, place), none at the trail's end."""
        while self._at > END:
            number = self._at
            statement = self._flow.statement(number)
            self._at = self._flow.behind(number)
            if statement[0] == "while":
                self._come_to(number, statement)
            if self._text[0] == "work":
                self._look_at_each(number, "place", self._flow.places_asked(number), self._table)
            if statement[0] in ("if", "while"):
                return self._fork(number, statement)
            if not self._goes_through(number, statement):
                return []
        if self._at == END:
            self._look_at_gives(self._flow.many + 1, None)
        else:
            again = -self._at
            self._look_at_each(again, "again", self._flow.statement(again)[2], self._table)
        return []

    def take(self, branch):
        """Take a branch of a fork."""
        step, saying, place = branch
        word, number = step
        self.way = self.way + (step,)
        self._at = place
        self.side.suppose(saying, self._table)
        if word == "in":
            self._table["left"] = self.side.laid(LEFT_BEHIND_ROUND, self._table)
            self._look((number, "round", 0), IS_LEFT, self._table)

    def _fork(self, number, statement):
        """The branches at an if or a while."""
        guard = statement[1]
        inside = self._flow.inside(number)
        if statement[0] == "if":
            return [(("then", number), guard, inside[0]), (("else", number), ("not", guard), inside[1])]
        return [(("in", number), guard, inside[0]), (("past", number), ("not", guard), self._at)]

    def _come_to(self, number, statement):
        """Come to a while's head."""
        keeps = statement[2]
        self._look_at_each(number, "keeps", keeps, self._table)
        kinds = dict(own_of(self._text))
        for letter in self._flow.written(number):
            self._table[letter] = self.side.fresh(("loop", number, letter), kinds[letter])
        self._table["left"] = self.side.fresh(("loop", number, "left"), "number")
        self._suppose_each(keeps, self._table)

    def _goes_through(self, number, statement):
        """Go through a statement that is no fork, behind its looks at places; whether the trail goes on."""
        word = statement[0]
        if word in ("do", "use"):
            return self._calls(number, statement)
        if word == "hold":
            self._look((number, "hold", 0), statement[1], self._table)
        elif word == "give":
            self._look_at_gives(number, self.side.laid(statement[1], self._table))
        elif word == "put":
            _, row, place, term = statement
            self._table[row] = self.side.laid(("with", ("row", row), place, term), self._table)
        else:
            if statement[2][0] == "room":
                self._look((number, "room", 0), has_room(statement[2][1]), self._table)
            self._table[statement[1]] = self.side.laid(statement[2], self._table)
        return word != "give"

    def _calls(self, number, statement):
        """Go over a do or a use; whether it fits."""
        text = fitting(self._book, self._text, statement)
        if text is None:
            return False
        needs, gives, spends = oaths_of(text)
        places = [self.side.laid(place, self._table) for place in statement[-1]]
        table = {letter: place for (letter, _), place in zip(letters_of_text(text), places)}
        self._look_at_each(number, "needs", needs, table)
        if statement[0] == "do" or self._text[0] == "claim":
            left = {"left": self._table["left"], "cost": self.side.laid(spends, table)}
            self._table["left"] = self.side.laid(LEFT_BEHIND_CALL, left)
            self._look((number, "left", 0), IS_LEFT, self._table)
        if statement[0] == "do":
            table["given"] = self.side.fresh(("do", number), text[4])
            self._table[statement[1]] = table["given"]
        self._suppose_each(gives, table)
        return True

    def _look_at_gives(self, number, given):
        """The looks at what the text gives."""
        _, gives, _ = oaths_of(self._text)
        self._look_at_each(number, "gives", gives, {**self._table, "given": given})

    def _look_at_each(self, number, word, sayings, table):
        """The looks of a statement that have one word."""
        for part, saying in enumerate(sayings):
            self._look((number, word, part), saying, table)

    def _look(self, look, saying, table):
        """A look, which is supposed behind it."""
        inner = table
        if saying[0] == "all":
            inner = {**table, "own": self.side.fresh(("fresh",), "number")}
        self.side.look(self.way, look, contrary(saying), inner)
        self.side.suppose(saying, table)

    def _suppose_each(self, sayings, table):
        for saying in sayings:
            self.side.suppose(saying, table)


def go_all_ways(trail):
    """Go from a text's begin through all its ways."""
    trail.begin()
    todo = [trail]
    while todo:
        trail = todo.pop()
        for branch in trail.branches():
            other = trail.forked(trail.side.forked())
            other.take(branch)
            todo.append(other)


def go_along(trail, way):
    """Go from a text's begin along one way, and on to the next fork or the end."""
    trail.begin()
    for step in way:
        trail.take([branch for branch in trail.branches() if branch[0] == step][0])
    trail.branches()
