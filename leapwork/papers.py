"""Papers: trees of nodes, their children, and how great they may be."""

from leapwork.sizes import has_short_numbers, is_small

# The node's words, each with how many parts stand behind it, and how many of
# these, the last ones, are papers (of alike they stand in a tuple of its own).
NODES = {
    "lines": (1, 0),
    "parts": (2, 1),
    "cases": (3, 2),
    "take": (5, 3),
    "put": (3, 2),
    "alike": (3, 0),
    "write": (3, 2),
    "bare": (2, 1),
    "size": (2, 1),
    "floor": (2, 1),
    "unfold": (3, 2),
}

_MOST_NODES = 200
_MOST_WITHIN = 40
_MOST_TUPLES_WITHIN = 80
_ANY = 1000000


def has_word(thing):
    """Whether anything is a tuple with a node's word first."""
    return isinstance(thing, tuple) and len(thing) > 0 and isinstance(thing[0], str) and thing[0] in NODES


def is_node(thing):
    """Whether anything is a tuple of a node's word with its number of parts."""
    return has_word(thing) and len(thing) - 1 == NODES[thing[0]][0]


def copied(thing):
    """The same once more, all lists within it new ones."""
    # What is within another is made ahead of it, its leftmost part last.
    order = []
    todo = [thing]
    while todo:
        part = todo.pop()
        order.append(part)
        if isinstance(part, (tuple, list)):
            todo.extend(list(part)[::-1])
    made = []
    for part in order[::-1]:
        if isinstance(part, (tuple, list)):
            inner = [made.pop() for _ in part]
            made.append(inner if isinstance(part, list) else tuple(inner))
        else:
            made.append(part)
    return made[0]


def papers_in(node):
    """The papers right within a node, as its children."""
    if node[0] == "alike":
        return node[3] if isinstance(node[3], tuple) else ()
    return node[len(node) - NODES[node[0]][1]:]


def is_within_bounds(paper):
    """Whether anything, taken as a paper, is small enough to be judged."""
    if not _has_few_nodes(paper) or not is_small([paper], _ANY, _MOST_TUPLES_WITHIN):
        return False
    return has_short_numbers([paper], "lines")


def _has_few_nodes(paper):
    """Whether a paper has no more nodes, in all and within one another, than it may; others count one."""
    many = 0
    todo = [(paper, 1)]
    while todo:
        node, deep = todo.pop()
        many += 1
        if many > _MOST_NODES or deep > _MOST_WITHIN:
            return False
        if is_node(node):
            todo.extend([(inner, deep + 1) for inner in papers_in(node)])
    return True
