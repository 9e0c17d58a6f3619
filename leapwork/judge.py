"""The judge: bundles, what stands more at a node's children, and whether a paper is right."""

from leapwork.grounds import ground_of, more_on
from leapwork.names import is_whole
from leapwork.papers import is_within_bounds, papers_in
from leapwork.sizes import MOST_LETTERS, MOST_SAYINGS, MOST_TUPLES, MOST_WITHIN, has_short_numbers, is_small
from leapwork.terms import is_saying, letters_of


def is_bundle(thing):
    """Whether anything is a bundle."""
    if not isinstance(thing, list) or not 1 <= len(thing) <= MOST_SAYINGS:
        return False
    # The bounds first, so that no more than these is gone into.
    if not is_small(thing, MOST_TUPLES, MOST_WITHIN) or not has_short_numbers(thing):
        return False
    return all([is_saying(saying) for saying in thing]) and _has_good_letters(thing)


def more_at(sayings, notions, node):
    """Of any node at a list of sayings what stands more for each child, or None where it isn't right."""
    return more_on(ground_of(sayings, notions), node)


def judged(bundle, notions, paper):
    """Whether a paper of a bundle is right: ("right",), or ("wrong", path of the first wrong node)."""
    if not is_within_bounds(paper):
        return ("wrong", ())
    todo = [(paper, (), ground_of(bundle, notions))]
    while todo:
        node, path, ground = todo.pop()
        children = more_on(ground, node)
        if children is None:
            return ("wrong", path)
        papers = papers_in(node)
        for number in range(len(children) - 1, -1, -1):
            todo.append((papers[number], path + (number,), ground.grown(children[number])))
    return ("right",)


def _has_good_letters(sayings):
    """Whether all letters are whole numbers, each of one kind, and no more than may be."""
    letters = {letter: True for saying in sayings for letter in letters_of(saying)}
    if not all([is_whole(letter) for letter, _ in letters]):
        return False
    return len(letters) <= MOST_LETTERS and len({letter: True for letter, _ in letters}) == len(letters)
