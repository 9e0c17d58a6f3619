"""Leaps: goals tried out with worths."""

from leapwork.books import notions_of, text_in
from leapwork.errors import NoGoal, NoWorths
from leapwork.flow import Flow
from leapwork.frames import NO_ROW
from leapwork.goals import goal_at, looks_of
from leapwork.inputs import are_worths
from leapwork.looks import Firm, Look
from leapwork.names import is_whole
from leapwork.terms import letters_of
from leapwork.trails import Trail, go_along


class Leaping:
    """The side of a trail on which worths stand for letters; end is what the leap tells, None up to then."""

    def __init__(self, notions, look, worths):
        self.end = None
        self._firm = Firm(notions)
        self._due = look
        self._worths = worths
        # The number in the bundle of what comes next.
        self._number = 0

    def fresh(self, letter, kind):
        """What stands for a fresh letter."""
        return self._worths.get(letter, 0 if kind == "number" else NO_ROW)

    def laid(self, thing, table):
        """The worth of a term or row term, or None."""
        return Look(self._firm).worth(thing, table)

    def suppose(self, saying, table):
        """Take what is supposed: the leap goes on where it is so."""
        self._take(saying, table, ("astray", self._number))

    def look(self, way, look, sayings, table):
        """Take a look: the leap ends at that of its goal."""
        if look != self._due or self.end is not None:
            return
        for saying in sayings[:-1]:
            self.suppose(saying, table)
        self._take(sayings[-1], table, ("so",))
        if self.end is None:
            self.end = ("breaks",)

    def _take(self, saying, table, otherwise):
        """Take the bundle's next saying, and end where it isn't so."""
        if self.end is not None:
            return
        truth = Look(self._firm).truth(saying, table)
        if truth is None:
            self.end = ("passed", self._number)
        elif not truth:
            self.end = otherwise
        self._number += 1


def leap(book, name, number, worths):
    """Try a goal out with worths for its letters; or NoName, NoGoal, NoWorths."""
    text = text_in(book, name)
    way, look, bundle, letters = _goal_of(book, text, number)
    if not are_worths(worths, _kinds_of(bundle, letters)):
        raise NoWorths("these are no worths for the goal's letters")
    side = Leaping(notions_of(book), look, dict(zip(letters, worths)))
    go_along(Trail(book, text, Flow(text), side), way)
    return side.end


def _goal_of(book, text, number):
    """The goal of a text that has anything as its number; or NoGoal, also where it is too great."""
    looks = looks_of(book, text)
    if is_whole(number) and 0 <= number < len(looks):
        way, look = looks[number]
        goal = goal_at(book, text, way, look)
        if goal[2] is not None:
            return goal
    raise NoGoal("no goal that a leap may be asked of has this number")


def _kinds_of(bundle, letters):
    """The goal's letters, tuples (letter, kind)."""
    kinds = {letter: kind for saying in bundle for letter, kind in letters_of(saying)}
    return [(letter, kinds[number]) for number, letter in enumerate(letters)]
