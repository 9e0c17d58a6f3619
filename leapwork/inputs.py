"""Worths that are handed in: of rows, and as the inputs of a run."""

from leapwork.errors import NoInputs, NoTicks
from leapwork.names import is_whole

# The greatest room, and the greatest size of a row that is handed in.
MOST_SIZE = 10 ** 6

_MOST_PLACES = 60
_MOST_TICKS = 2000
# Two hundred figures at most.
_BEYOND = (10 ** 50) ** 4


def is_long(number):
    """Whether a number has more than two hundred figures."""
    return not -_BEYOND < number < _BEYOND


def is_worth(thing, kind):
    """Whether anything is a worth of a "number" or a "row"."""
    return is_whole(thing) if kind == "number" else _is_row_worth(thing)


def are_worths(things, letters):
    """Whether anything is a tuple of a worth for each letter, of its kind."""
    if not isinstance(things, tuple) or len(things) != len(letters):
        return False
    return all([is_worth(thing, kind) for thing, (_, kind) in zip(things, letters)])


def ask_inputs(letters, inputs):
    """NoInputs where anything isn't what a run of a text with these letters may be asked for with."""
    if not are_worths(inputs, letters) or any([_is_great(worth) for worth in inputs]):
        raise NoInputs("these are no inputs of the text")


def ask_ticks(ticks):
    """NoTicks where anything isn't as many ticks as a run may be handed."""
    if not is_whole(ticks) or not 0 <= ticks <= _MOST_TICKS:
        raise NoTicks("so many ticks can't be handed in")


def _is_row_worth(thing):
    """Whether anything is a size with rising places, none of which has the number 0."""
    if not isinstance(thing, tuple) or len(thing) != 2:
        return False
    size, places = thing
    if not is_whole(size) or size < 0 or not isinstance(places, tuple):
        return False
    if not all([_is_place(pair) for pair in places]):
        return False
    return all([one[0] < other[0] for one, other in zip(places, places[1:])])


def _is_place(pair):
    """Whether anything is a tuple of a place and its number, which isn't 0."""
    return isinstance(pair, tuple) and len(pair) == 2 and is_whole(pair[0]) and is_whole(pair[1]) and pair[1] != 0


def _is_great(worth):
    """Whether a worth is too great to be handed in."""
    if is_whole(worth):
        return is_long(worth)
    size, places = worth
    if size > MOST_SIZE or len(places) > _MOST_PLACES:
        return True
    return any([is_long(place) or is_long(number) for place, number in places])
