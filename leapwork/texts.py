"""Texts: works, claims and notions; what they break, and what stands in them."""

from leapwork.blocks import block_of, numbered, ways_of
from leapwork.faults import has_all_where_it_may_be, has_good_ends, has_good_kinds, has_good_names, has_good_sizes
from leapwork.shapes import has_shape
from leapwork.sites import called_in


def fault(thing):
    """None where anything is a text, else the word of what it breaks first."""
    if not has_shape(thing):
        return "form"
    if not has_good_names(thing):
        return "names"
    if not has_good_kinds(thing):
        return "kinds"
    if not has_all_where_it_may_be(thing):
        return "where"
    if not has_good_ends(thing):
        return "ends"
    return None if has_good_sizes(thing) else "sizes"


def statements(text):
    """A text's statements in the order of their numbers; of a notion none."""
    return numbered(block_of(text))


def called(text):
    """What a text does, uses and names, tuples (word, name), each once, as they first stand."""
    return called_in(text)


def ways(text):
    """How many ways there are through a text; of a notion 0."""
    return 0 if text[0] == "notion" else sum(ways_of(block_of(text)))
