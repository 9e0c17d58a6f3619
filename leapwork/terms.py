"""Terms, row terms and sayings: their forms, their letters, and what is put into them.

Lists of what is still to be done stand here for recursion: things may be
deeper than Python calls functions within one another.
"""

from leapwork.names import is_name, is_whole

# Each word with the kinds of the parts that are due behind it.
TERMS = {
    "num": ("whole",),
    "name": ("number letter",),
    "add": ("term", "term"),
    "mul": ("whole", "term"),
    "read": ("row", "term"),
    "size": ("row",),
    "div": ("term", "divisor"),
    "mod": ("term", "divisor"),
    "notion": ("called", "places"),
}
ROWS = {
    "row": ("row letter",),
    "with": ("row", "term", "term"),
    "room": ("term",),
}
PLAINS = {
    "le": ("term", "term"),
    "eq": ("term", "term"),
    "not": ("plain",),
    "and": ("plain", "plain"),
    "or": ("plain", "plain"),
}

_MOST_DIVISOR = 1000000000


def is_term(thing):
    """Whether anything is a number's term, by its form and its letters' kinds."""
    return _is_of(thing, "term", False)


def is_row(thing):
    """Whether anything is a row term, by its form and its letters' kinds."""
    return _is_of(thing, "row", False)


def is_plain(thing):
    """Whether anything is a plain saying, by its form and its letters' kinds."""
    return _is_of(thing, "plain", False)


def is_saying(thing):
    """Whether anything is a saying: a plain one, or an all whose bounds don't have own."""
    if not isinstance(thing, tuple) or thing[:1] != ("all",):
        return is_plain(thing)
    return len(thing) == 4 and _is_bound(thing[1]) and _is_bound(thing[2]) and is_plain(thing[3])


def has_form(thing, kind):
    """Whether anything is a "term", "row", "place" (either of them), "plain" or "saying", any texts being letters."""
    if kind != "saying":
        return _is_of(thing, kind, True)
    if not isinstance(thing, tuple) or thing[:1] != ("all",):
        return _is_of(thing, "plain", True)
    return len(thing) == 4 and all([_is_of(part, due, True) for part, due in zip(thing[1:], ("term", "term", "plain"))])


def kind_of(thing):
    """Of a term "number", of a row term "row"."""
    return "row" if thing[0] in ROWS else "number"


def parts_of(thing):
    """The terms, row terms and sayings right within a thing, from left to right."""
    word = thing[0]
    if word in ("num", "name", "row"):
        return ()
    if word == "notion":
        return thing[2]
    if word == "mul":
        return thing[2:]
    return thing[1:2] if word in ("div", "mod") else thing[1:]


def things_in(thing):
    """The thing and all things within it: outer ones ahead, from left to right."""
    found = []
    todo = [thing]
    while todo:
        part = todo.pop()
        found.append(part)
        todo.extend(parts_of(part)[::-1])
    return found


def notion_terms_in(thing):
    """The notion terms that stand in the thing, each as often as it stands, outer ones ahead."""
    return [part for part in things_in(thing) if part[0] == "notion"]


def notions_in(thing):
    """The names of the notions in the thing, as they first stand, each once."""
    return list({part[1]: True for part in notion_terms_in(thing)})


def letters_of(thing):
    """The letters in the thing, tuples (letter, kind), as they first stand, each once."""
    found = {}
    for part in things_in(thing):
        if part[0] in ("name", "row"):
            found[(part[1], kind_of(part))] = True
    if thing[0] == "all":
        found.pop(("own", "number"), None)
    return list(found)


def put_in(thing, by):
    """The thing with letters put in by a dict, all at once; own within an all stays."""
    if thing[0] == "all":
        by = {letter: by[letter] for letter in by if letter != "own"}
    # From the last thing to the first, so that what stands within another is
    # made ahead of it, and its leftmost part is the one that was made last.
    made = []
    for part in things_in(thing)[::-1]:
        inner = [made.pop() for _ in parts_of(part)]
        made.append(by.get(part[1], part) if part[0] in ("name", "row") else rebuilt(part, inner))
    return made[0]


def rebuilt(part, inner):
    """One thing again, with the inner ones for its parts."""
    word = part[0]
    if word in ("num", "name", "row"):
        return part
    if word == "mul":
        return (word, part[1], inner[0])
    if word in ("div", "mod"):
        return (word, inner[0], part[2])
    if word == "notion":
        return (word, part[1], tuple(inner))
    return (word, *inner)


def _is_bound(thing):
    """Whether anything is a term without own."""
    return is_term(thing) and ("own", "number") not in letters_of(thing)


def _is_of(thing, kind, any_texts):
    """Whether anything is of this kind, all its parts included; names and letters are any texts, if so told."""
    todo = [(thing, kind)]
    while todo:
        part, due = todo.pop()
        inner = _due_within(part, due, any_texts)
        if inner is None:
            return False
        todo.extend(inner)
    return True


def _due_within(part, due, any_texts):
    """The parts within this one, each with the kind that is due there; None where it isn't of its own."""
    if due == "places":
        return [(place, "place") for place in part] if isinstance(part, tuple) else None
    if due not in ("term", "row", "place", "plain"):
        return [] if _is_value(part, due, any_texts) else None
    if not isinstance(part, tuple) or not part or not isinstance(part[0], str):
        return None
    kinds = _kinds_behind(part[0], due)
    if kinds is None or len(kinds) != len(part) - 1:
        return None
    return list(zip(part[1:], kinds))


def _kinds_behind(word, due):
    """The kinds of the parts behind this word, None where nothing of the kind that is due begins so."""
    if due == "term":
        return TERMS.get(word)
    if due == "row":
        return ROWS.get(word)
    if due == "place":
        return TERMS.get(word, ROWS.get(word))
    return PLAINS.get(word)


def _is_value(part, due, any_texts):
    """Whether anything is a number, a name or a letter of the kind that is due."""
    if due == "whole":
        return is_whole(part)
    if due == "divisor":
        return is_whole(part) and 1 <= part <= _MOST_DIVISOR
    if any_texts:
        return isinstance(part, str)
    if due == "called":
        return is_name(part)
    if is_whole(part):
        return part >= 0
    if due == "number letter" and part in ("left", "own"):
        return True
    return part == "given" or is_name(part)
