"""How great things are: their tuples, and the figures of their numbers."""

from leapwork.names import is_whole

# What a bundle has at most.
MOST_SAYINGS = 60
MOST_LETTERS = 24
MOST_TUPLES = 2000
MOST_WITHIN = 40

# Thirty figures at most.
_BEYOND = 1000000000000000000000000000000


def is_short(number):
    """Whether a whole number has at most thirty figures."""
    return -_BEYOND < number < _BEYOND


def is_small(things, most, deep):
    """Whether things have at most so many tuples in all, and so many within one another."""
    return tuples_in(things, most, deep) is not None


def tuples_in(things, most, deep):
    """How many tuples things have in all; None where these are more than most, or more than deep within one another.

    No more than that are gone through: one part may stand many times over.
    """
    many = 0
    todo = [(thing, 1) for thing in things]
    while todo:
        thing, depth = todo.pop()
        if not isinstance(thing, tuple):
            continue
        many += 1
        if many > most or depth > deep:
            return None
        todo.extend([(part, depth + 1) for part in thing if isinstance(part, tuple)])
    return many


def has_short_numbers(things, but=None):
    """Whether no whole number anywhere in the things is longer than thirty figures.

    Tuples that begin with the word but are passed over.
    """
    todo = list(things)
    while todo:
        thing = todo.pop()
        if isinstance(thing, list) or (isinstance(thing, tuple) and not _begins_with(thing, but)):
            todo.extend(thing)
        elif is_whole(thing) and not is_short(thing):
            return False
    return True


def _begins_with(thing, word):
    """Whether a tuple's first part is this word."""
    return len(thing) > 0 and isinstance(thing[0], str) and thing[0] == word
