"""The form of texts: which parts stand behind which word."""

from leapwork.names import is_whole
from leapwork.terms import has_form

TEXTS = {
    "work": ("name", "letters", "letters", "kind", "sayings", "sayings", "term", "statements"),
    "claim": ("name", "letters", "sayings", "sayings", "term", "statements"),
    "notion": ("name", "whole", "letters", "term", "term"),
}
STATEMENTS = {
    "set": ("name", "term"),
    "put": ("name", "term", "term"),
    "row": ("name", "row"),
    "do": ("name", "name", "places"),
    "if": ("saying", "statements", "statements"),
    "while": ("saying", "sayings", "statements"),
    "hold": ("saying",),
    "use": ("name", "places"),
    "give": ("place",),
}

# What is a tuple of any number of parts, and what each of these is.
_MANY = {"letters": "letter", "sayings": "saying", "places": "place", "statements": "statement"}


def has_shape(thing):
    """Whether anything has the form of a text."""
    todo = [(thing, "text")]
    while todo:
        part, due = todo.pop()
        inner = _due_within(part, due)
        if inner is None:
            return False
        todo.extend(inner)
    return True


def _due_within(part, due):
    """The parts within this one, each with what is due there; None where it isn't as told itself."""
    if due in ("term", "place", "row", "saying"):
        return [] if has_form(part, due) else None
    if due in ("name", "kind", "whole"):
        return [] if _is_value(part, due) else None
    if not isinstance(part, tuple):
        return None
    if due in _MANY:
        return [(each, _MANY[due]) for each in part]
    parts, kinds = (part, ("name", "kind")) if due == "letter" else (part[1:], _kinds_behind(part, due))
    if kinds is None or len(kinds) != len(parts):
        return None
    return list(zip(parts, kinds))


def _kinds_behind(part, due):
    """What is due behind a text's or a statement's word, None where it is no such word."""
    if not part or not isinstance(part[0], str):
        return None
    return TEXTS.get(part[0]) if due == "text" else STATEMENTS.get(part[0])


def _is_value(part, due):
    """Whether anything is a text, a kind's word or a whole number, as is due."""
    if due == "whole":
        return is_whole(part)
    return isinstance(part, str) and (due == "name" or part in ("number", "row"))
