"""Books: dicts from names to texts."""

from leapwork.blocks import letters_of_text, own_of
from leapwork.errors import NoName
from leapwork.notions import places_fit


def notions_of(book):
    """The notions of a book."""
    return {name: book[name] for name in book if book[name][0] == "notion"}


def text_in(book, name):
    """The work or claim that stands under a name, which may be anything; or NoName."""
    if not isinstance(name, str) or name not in book or book[name][0] == "notion":
        raise NoName(name)
    return book[name]


def fitting(book, text, statement):
    """What a text's do or use goes into, None where that doesn't fit."""
    word, name, places = statement[0], statement[-2], statement[-1]
    called = book.get(name)
    if called is None or called[0] != ("work" if word == "do" else "claim"):
        return None
    if not places_fit(places, letters_of_text(called)):
        return None
    if word == "do" and (statement[1], called[4]) not in own_of(text):
        return None
    return called
