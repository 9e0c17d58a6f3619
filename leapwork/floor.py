"""The floor: papers that the program finds by itself, by cases, sums and rings of ways alone."""

from math import gcd

from leapwork.cases import cases_of_saying, parts_of_saying
from leapwork.lines import Numbering
from leapwork.papers import is_within_bounds

_MOST_SPLITS = 4

# What stands in a ring of ways where there is no atom; atoms have numbers from 0 on.
_NOUGHT = -1


class Row:
    """A line in the making, and the weights of the list's lines that it is made by, with its divisor."""

    def __init__(self, kind, weights, number, made_by, divisor):
        self.kind = kind
        self.weights = weights
        self.number = number
        self.made_by = made_by
        self.divisor = divisor

    def take(self, used, atom):
        """Take a row, in which the atom has weight 1 or -1, as often as makes the atom's weight here 0."""
        often = self.weights.get(atom, 0) * used.weights[atom]
        self.weights = _less(self.weights, used.weights, often)
        self.number -= often * used.number
        self.made_by = _less(self.made_by, used.made_by, often)

    def divided(self, sign):
        """The row itself (1), or turned over (-1), divided by what all its weights share."""
        shared = 0
        for atom in self.weights:
            shared = gcd(shared, self.weights[atom])
        shared = shared if self.weights else 1
        weights = {atom: sign * self.weights[atom] // shared for atom in self.weights}
        made_by = {place: sign * self.made_by[place] for place in self.made_by}
        return Row("le", weights, sign * self.number // shared, made_by, shared)

    def told(self):
        """The row as it stands in a paper."""
        return tuple(sorted([(place, self.made_by[place]) for place in self.made_by])), self.divisor


def floor_of(bundle):
    """A paper that the judge lets by, or None: where a leaf isn't closed, or the paper is too great."""
    paper = _paper_of(_tree_of(bundle))
    return paper if paper is not None and is_within_bounds(paper) else None


def leaves_of(bundle):
    """The lists of sayings at the leaves that the floor comes to."""
    return [[saying for saying, _ in leaf] for leaf in _leaves_in(_tree_of(bundle))]


def closed(sayings):
    """Rows that make a closed line of the sayings that are lines, or None."""
    return _closed(_lined(sayings, Numbering()))


def _lined(sayings, numbering):
    """The sayings, each with the numbered line that it is, or None."""
    return [(saying, numbering.of_saying(saying)) for saying in sayings]


def _closed(leaf):
    """Rows that make a closed line of the lines of a leaf, or None."""
    bounds = []
    for row in _cleared(_rows_of(leaf)):
        bounds.append(row.divided(1))
        if row.kind == "eq":
            bounds.append(row.divided(-1))
    for row in bounds:
        if not row.weights and row.number < 0:
            return (row.told(),)
    ring = _ring(_ways(bounds))
    if ring is None:
        return None
    added = tuple([(len(leaf) + number, 1) for number in range(len(ring))])
    return tuple([row.told() for row in ring] + [(added, 1)])


def _tree_of(bundle):
    """What the floor goes through from a bundle on."""
    numbering = Numbering()
    return _tree(_lined(bundle, numbering), numbering, 0, 0, 0)


def _tree(lined, numbering, opened, split, splits):
    """What the floor goes through from a list of sayings on, each with its line, or None.

    Those ahead of opened are opened already, those ahead of split are split,
    and splits were split. Told are the numbers of those that are opened now;
    then of a leaf None and its list, else the number that is split, and both trees.
    """
    lined = list(lined)
    numbers = []
    while opened < len(lined):
        parts = parts_of_saying(lined[opened][0])
        if parts is not None:
            numbers.append(opened)
            lined.extend(_lined(parts, numbering))
        opened += 1
    while split < len(lined) and cases_of_saying(lined[split][0]) is None:
        split += 1
    if splits == _MOST_SPLITS or split == len(lined):
        return numbers, None, lined
    cases = [_lined([case], numbering) for case in cases_of_saying(lined[split][0])]
    return numbers, split, [_tree(lined + case, numbering, opened, split + 1, splits + 1) for case in cases]


def _leaves_in(tree):
    """The lists at the leaves of a tree, from left to right."""
    _, split, inner = tree
    if split is None:
        return [inner]
    return [leaf for each in inner for leaf in _leaves_in(each)]


def _paper_of(tree):
    """The paper of a tree, None where a leaf isn't closed."""
    numbers, split, inner = tree
    if split is None:
        rows = _closed(inner)
        paper = None if rows is None else ("lines", rows)
    else:
        one = _paper_of(inner[0])
        other = None if one is None else _paper_of(inner[1])
        paper = None if other is None else ("cases", split, one, other)
    if paper is not None:
        for number in numbers[::-1]:
            paper = ("parts", number, paper)
    return paper


def _rows_of(leaf):
    """A row for each saying of a leaf that is a line, in order."""
    rows = []
    for place, (_, line) in enumerate(leaf):
        if line is not None:
            kind, weights, number = line
            rows.append(Row(kind, weights, number, {place: 1}, 1))
    return rows


def _cleared(rows):
    """The rows that are left where those that say what an atom is are used, each for one atom."""
    order = {}
    for row in rows:
        for atom in row.weights:
            order.setdefault(atom, len(order))
    use = _next_use(rows, order)
    while use is not None:
        place, atom = use
        used = rows[place]
        rows = rows[:place] + rows[place + 1:]
        for row in rows:
            row.take(used, atom)
        use = _next_use(rows, order)
    return rows


def _next_use(rows, order):
    """The place of the first eq row with an atom of weight 1 or -1, and its first such atom; or None."""
    for place, row in enumerate(rows):
        atoms = [atom for atom in row.weights if abs(row.weights[atom]) == 1]
        if row.kind == "eq" and atoms:
            return place, min(atoms, key=lambda atom: order[atom])
    return None


def _less(weights, others, often):
    """Weights, others taken from them so often; those that come to 0 left out."""
    left = {each: weights[each] for each in weights}
    for each in others:
        left[each] = left.get(each, 0) - often * others[each]
    return {each: left[each] for each in left if left[each] != 0}


def _ways(rows):
    """The ways (from, to, row) that some of the rows are."""
    ways = []
    for row in rows:
        ends = _ends(row.weights)
        if ends is not None:
            ways.append((ends[0], ends[1], row))
    return ways


def _ends(weights):
    """Where the way goes from and to that a line with these weights is, or None where it is none."""
    to = [atom for atom in weights if weights[atom] == 1]
    come_from = [atom for atom in weights if weights[atom] == -1]
    if not weights or len(to) > 1 or len(come_from) > 1 or len(to) + len(come_from) < len(weights):
        return None
    return come_from[0] if come_from else _NOUGHT, to[0] if to else _NOUGHT


def _ring(ways):
    """The rows of a ring of ways (from, to, row) that adds up below 0, or None."""
    near = {end: 0 for way in ways for end in way[:2]}
    come_by = {}
    # Without such a ring no end gets nearer any more once as many rounds were made as there are ends.
    for _ in range(len(near)):
        last = None
        for start, end, row in ways:
            if near[start] + row.number < near[end]:
                near[end] = near[start] + row.number
                come_by[end] = (start, row)
                last = end
        if last is None:
            return None
    return _ring_behind(last, come_by) if ways else None


def _ring_behind(end, come_by):
    """The rows of the ring that one comes to, going back from an end."""
    for _ in range(len(come_by)):
        end = come_by[end][0]
    ring = []
    at = end
    while not ring or at != end:
        at, row = come_by[at]
        ring.append(row)
    return ring
