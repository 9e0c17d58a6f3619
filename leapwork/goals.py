"""Goals: the looks of a text on its ways, each with what is supposed there and that it isn't so."""

from leapwork.books import text_in
from leapwork.flow import Flow
from leapwork.sizes import MOST_LETTERS, MOST_SAYINGS, MOST_TUPLES, MOST_WITHIN, tuples_in
from leapwork.terms import letters_of, put_in
from leapwork.trails import Trail, go_all_ways, go_along

# The words of looks in the order in which a statement's goals stand.
_ORDER = ("spends", "keeps", "place", "room", "needs", "left", "hold", "round", "again", "gives")
_FIRST_STEPS = ("then", "in")


class Bundle:
    """Sayings in the making of a bundle, their fresh letters numbered as they first stand."""

    def __init__(self, sayings, letters, tuples):
        self.sayings = sayings
        # What each fresh letter is put by.
        self.letters = letters
        self._tuples = tuples

    def grown(self, sayings):
        """A bundle in the making that has these sayings more; None where it is too great."""
        more = tuples_in(sayings, MOST_TUPLES - self._tuples, MOST_WITHIN)
        if more is None or len(self.sayings) + len(sayings) > MOST_SAYINGS:
            return None
        letters = dict(self.letters)
        for saying in sayings:
            for letter, kind in letters_of(saying):
                word = "name" if kind == "number" else "row"
                letters.setdefault(letter, (word, len(letters)))
        if len(letters) > MOST_LETTERS:
            return None
        numbered = [put_in(saying, letters) for saying in sayings]
        return Bundle(self.sayings + numbered, letters, self._tuples + more)


class Laying:
    """The side of a trail on which terms are laid for letters; what each look makes of them is a goal.

    Numbers stand for the fresh letters, by the order in which the text's trails come to them.
    """

    def __init__(self, letters, goals):
        self._letters = letters
        self._goals = goals
        self._bundle = Bundle([], {}, 0)

    def forked(self):
        """The same side once more, for another branch."""
        other = Laying(self._letters, self._goals)
        other.go_on(self._bundle)
        return other

    def go_on(self, bundle):
        """Go on from a bundle in the making, None where it is too great already."""
        self._bundle = bundle

    def fresh(self, letter, kind):
        """What stands for a fresh letter."""
        number = self._letters.setdefault(letter, len(self._letters))
        return ("name", number) if kind == "number" else ("row", number)

    def laid(self, thing, table):
        """A term or row term, with what is laid for its letters."""
        return put_in(thing, table)

    def suppose(self, saying, table):
        """Take what is supposed."""
        self._bundle = self._with([saying], table)

    def look(self, way, look, sayings, table):
        """Make a goal of a look."""
        bundle = self._with(sayings, table)
        if bundle is None:
            self._goals.append((way, look, None, ()))
        else:
            fresh = list(self._letters)
            letters = tuple([fresh[number] for number in bundle.letters])
            self._goals.append((way, look, bundle.sayings, letters))

    def _with(self, sayings, table):
        """The bundle with these sayings more, laid; None where it is too great."""
        if self._bundle is None:
            return None
        return self._bundle.grown([put_in(saying, table) for saying in sayings])


class Listing:
    """The side of a trail on which nothing is laid, and looks are but listed."""

    def __init__(self, looks):
        self._looks = looks

    def forked(self):
        """The same side, for another branch."""
        return self

    def fresh(self, letter, kind):
        """Nothing stands for a fresh letter."""
        return None

    def laid(self, thing, table):
        """Nothing is laid."""
        return None

    def suppose(self, saying, table):
        """Nothing is supposed."""

    def look(self, way, look, sayings, table):
        """List a look on its way."""
        self._looks.append((way, look))


def goals_of(book, name):
    """The goals of a work or claim, tuples (way, look, bundle, letters); or NoName."""
    text = text_in(book, name)
    goals = []
    go_all_ways(Trail(book, text, Flow(text), Laying({}, goals)))
    return sorted(goals, key=_place_of)


def goal_number(book, name, look, way):
    """The number of a text's goal that has this look and way, or None; or NoName."""
    for number, goal in enumerate(looks_of(book, text_in(book, name))):
        if goal == (way, look):
            return number
    return None


def looks_of(book, text):
    """The way and the look of each goal of a text."""
    looks = []
    go_all_ways(Trail(book, text, Flow(text), Listing(looks)))
    return sorted(looks, key=_place_of)


def goal_at(book, text, way, look):
    """The goal of a text that has this way and look, which one of its goals has."""
    goals = []
    go_along(Trail(book, text, Flow(text), Laying({}, goals)), way)
    return [goal for goal in goals if goal[0] == way and goal[1] == look][0]


def _place_of(goal):
    """What says where a goal stands among its text's."""
    way, (number, word, part) = goal[:2]
    return number, _ORDER.index(word), part, [0 if step in _FIRST_STEPS else 1 for step, _ in way]
