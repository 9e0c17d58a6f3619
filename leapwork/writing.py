"""Writings of texts, and of other tuples: in brackets, one blank between the parts."""

from leapwork.errors import NoWriting

_FIGURES = "0123456789"
_LETTERS = "abcdefghijklmnopqrstuvwxyz"
_MOST_FIGURES = 30
_MOST_LETTERS = 8
_MOST_OPEN = 40


def shown(text):
    """The writing of a tuple."""
    signs = []
    todo = [text]
    while todo:
        part = todo.pop()
        if isinstance(part, tuple):
            pieces = [piece for inner in part for piece in (" ", inner)]
            todo.extend(["(", *pieces[1:], ")"][::-1])
        else:
            signs.append(str(part))
    return "".join(signs)


def read(writing):
    """The tuple of a writing; or NoWriting."""
    if not isinstance(writing, str):
        raise NoWriting(0)
    whole = ()
    # The parts, so far, of each tuple whose bracket is open.
    opened = []
    at = 0
    due = True
    while due or opened:
        sign = writing[at:at + 1]
        if due and sign == "(" and len(opened) < _MOST_OPEN:
            opened.append([])
            at += 1
        elif sign == ")" and opened and (not due or writing[at - 1] == "("):
            whole = tuple(opened.pop())
            if opened:
                opened[-1].append(whole)
            due = False
            at += 1
        elif sign == " " and not due:
            due = True
            at += 1
        elif due and opened:
            part, at = _part_at(writing, at)
            opened[-1].append(part)
            due = False
        else:
            raise NoWriting(at)
    if at < len(writing):
        raise NoWriting(at)
    return whole


def _part_at(writing, at):
    """The word or number that begins there, and where it ends; or NoWriting."""
    end = _end_of(writing, at, _LETTERS, _MOST_LETTERS)
    if end > at:
        return writing[at:end], end
    first = at + 1 if writing[at:at + 1] == "-" else at
    end = _end_of(writing, first, _FIGURES, _MOST_FIGURES)
    if end == first or (writing[first] == "0" and first > at):
        raise NoWriting(first)
    if writing[first] == "0":
        end = first + 1
    return int(writing[at:end]), end


def _end_of(writing, at, signs, most):
    """Where these signs end that stand from there on, no more than so many."""
    end = at
    while end < len(writing) and end < at + most and writing[end] in signs:
        end += 1
    return end
