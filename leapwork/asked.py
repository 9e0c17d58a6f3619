"""What the looks ask: sayings over the letters of the text that is looked at."""

from leapwork.cases import NOUGHT, one_more
from leapwork.terms import parts_of

LEFT = ("name", "left")
OWN = ("name", "own")
# What a round, a do and a use ask behind their cost.
IS_LEFT = ("le", NOUGHT, LEFT)

_LESS_ONE = ("num", -1)

# What is left behind a round; and behind a do or a use, whose callee spends the cost.
LEFT_BEHIND_ROUND = ("add", LEFT, _LESS_ONE)
LEFT_BEHIND_CALL = ("add", LEFT_BEHIND_ROUND, ("mul", -1, ("name", "cost")))


def is_left_of(spends):
    """What a frame's begin asks."""
    return ("le", NOUGHT, spends)


def has_room(size):
    """What a room asks."""
    return ("le", NOUGHT, size)


def is_within(row, place):
    """What a read and a put ask of their place."""
    return ("and", ("le", NOUGHT, place), ("le", one_more(place), ("size", row)))


def places_asked(statement):
    """What a work's statement asks of its places: its reads', from left to right, inner ones ahead, and a put's own."""
    sayings = [is_within(read[1], read[2]) for term in _terms_in(statement) for read in _reads_in(term)]
    if statement[0] == "put":
        sayings.append(is_within(("row", statement[1]), statement[2]))
    return sayings


def contrary(saying):
    """The sayings that are so where a saying isn't; of an all own stands for the place at which it isn't."""
    if saying[0] != "all":
        return [("not", saying)]
    _, low, high, inner = saying
    return [("le", low, OWN), ("le", one_more(OWN), high), ("not", inner)]


def _terms_in(statement):
    """The terms, row terms and guards whose reads a statement asks of."""
    word = statement[0]
    if word in ("hold", "use"):
        return ()
    if word == "do":
        return statement[3]
    return statement[2:] if word in ("set", "put", "row") else statement[1:2]


def _reads_in(thing):
    """The reads in a thing of a text, from left to right, inner ones ahead."""
    inner = [read for part in parts_of(thing) for read in _reads_in(part)]
    return inner + [thing] if thing[0] == "read" else inner
