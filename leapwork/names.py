"""Whole numbers and names: the smallest parts, which every other file asks for."""

KEPT = ("left", "given", "own")

_SMALL = "abcdefghijklmnopqrstuvwxyz"
_MOST_SIGNS = 8


def is_whole(thing):
    """Whether anything is a whole number: an int that is no truth."""
    return isinstance(thing, int) and not isinstance(thing, bool)


def is_name(thing):
    """Whether anything is a NAME: one to eight small letters, and no kept word."""
    if not isinstance(thing, str) or thing in KEPT:
        return False
    return 1 <= len(thing) <= _MOST_SIGNS and all([sign in _SMALL for sign in thing])
