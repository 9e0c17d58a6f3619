"""Where a node stands: its list of sayings, and what stands more for each child of it."""

from leapwork.cases import NOUGHT, ONE, cases_of_saying, one_more, parts_of_saying
from leapwork.errors import BadLine
from leapwork.lines import Numbering, is_never, made_of
from leapwork.looks import Firm
from leapwork.names import is_whole
from leapwork.notions import places_fit
from leapwork.papers import is_node
from leapwork.sizes import is_small
from leapwork.terms import is_plain, is_row, is_term, kind_of, letters_of, put_in

_MOST_TUPLES = 4000
_MOST_WITHIN = 60


class Facts:
    """What is one for a whole paper: the letters of the list, the notions, the numbers of atoms.

    The children's lists have no more letters than the bundle itself.
    """

    def __init__(self, sayings, notions):
        self.letters = {letter: True for saying in sayings for letter in letters_of(saying)}
        self.numbering = Numbering()
        self._notions = notions
        self._firm = Firm(notions)

    def notion(self, name):
        """The notion of this name where it stands firm, else None."""
        return None if self._firm.ready(name) is None else self._notions[name]


class Ground:
    """A node's list of sayings, and the numbered lines that they are."""

    def __init__(self, facts, sayings, lines):
        self.facts = facts
        self.sayings = sayings
        self.lines = lines

    def grown(self, more):
        """The ground of a child, at whose list these sayings stand more."""
        lines = [self.facts.numbering.of_saying(saying) for saying in more]
        return Ground(self.facts, self.sayings + more, self.lines + lines)

    def saying(self, number):
        """The list's saying that has this number, None where anything else is handed in."""
        if not is_whole(number) or not 0 <= number < len(self.sayings):
            return None
        return self.sayings[number]

    def has_term(self, thing):
        """Whether anything is a term over letters of the list."""
        return is_term(thing) and self._has_letters(thing)

    def has_row(self, thing):
        """Whether anything is a row term over letters of the list."""
        return is_row(thing) and self._has_letters(thing)

    def has_plain(self, thing):
        """Whether anything is a plain saying over letters of the list."""
        return is_plain(thing) and self._has_letters(thing)

    def _has_letters(self, thing):
        return all([letter in self.facts.letters for letter in letters_of(thing)])


def ground_of(sayings, notions):
    """The ground of a list of sayings that stands by itself."""
    return Ground(Facts(sayings, notions), [], []).grown(list(sayings))


def more_on(ground, node):
    """Of anything what stands more for each child, or None where it is no node that is right there."""
    if not is_node(node):
        return None
    rule = RULES[node[0]]
    children = rule(ground, node)
    if children is None:
        return None
    if all([is_small([saying], _MOST_TUPLES, _MOST_WITHIN) for child in children for saying in child]):
        return children
    return None


def _lines(ground, node):
    rows = node[1]
    if not isinstance(rows, tuple) or not rows:
        return None
    lines = list(ground.lines)
    for row in rows:
        if not isinstance(row, tuple) or len(row) != 2:
            return None
        try:
            lines.append(made_of(lines, row[0], row[1]))
        except BadLine:
            return None
    kind, weights, number = lines[-1]
    return [] if not weights and is_never(kind, number) else None


def _parts(ground, node):
    saying = ground.saying(node[1])
    parts = None if saying is None else parts_of_saying(saying)
    return None if parts is None else [parts]


def _cases(ground, node):
    saying = ground.saying(node[1])
    cases = None if saying is None else cases_of_saying(saying)
    return None if cases is None else [[case] for case in cases]


def _take(ground, node):
    saying = ground.saying(node[1])
    place = node[2]
    if saying is None or saying[0] != "all" or not ground.has_term(place):
        return None
    _, low, high, inner = saying
    return [[("le", one_more(place), low)], [("le", high, place)], [put_in(inner, {"own": place})]]


def _put(ground, node):
    saying = node[1]
    return [[saying], [("not", saying)]] if ground.has_plain(saying) else None


def _alike(ground, node):
    _, one, other, papers = node
    if not ground.has_term(one) or not ground.has_term(other):
        return None
    pairs = _pairs_of_places(one, other)
    if pairs is None or not isinstance(papers, tuple) or len(papers) != len(pairs) + 1:
        return None
    return [[("not", ("eq", mine, its))] for mine, its in pairs] + [[("eq", one, other)]]


def _pairs_of_places(one, other):
    """The number places of two reads of a row, or of two terms of a notion; None of all else."""
    if one[:2] != other[:2] or one[0] not in ("read", "notion"):
        return None
    if one[0] == "read":
        return [(one[2], other[2])]
    places = list(zip(one[2], other[2]))
    if len(one[2]) != len(other[2]) or any([kind_of(mine) != kind_of(its) for mine, its in places]):
        return None
    if any([kind_of(mine) == "row" and mine != its for mine, its in places]):
        return None
    return [(mine, its) for mine, its in places if kind_of(mine) == "number"]


def _write(ground, node):
    read = node[1]
    if not ground.has_term(read) or read[0] != "read" or read[1][0] != "with":
        return None
    _, (_, row, place, number), asked = read
    same = ("eq", place, asked)
    return [[same, ("eq", read, number)], [("not", same), ("eq", read, ("read", row, asked))]]


def _bare(ground, node):
    read = node[1]
    if not ground.has_term(read) or read[0] != "read" or read[1][0] != "room":
        return None
    return [[("eq", read, NOUGHT)]]


def _size(ground, node):
    row = node[1]
    if not ground.has_row(row):
        return None
    size = ("size", row)
    more = [("le", NOUGHT, size)]
    if row[0] == "with":
        more.append(("eq", size, ("size", row[1])))
    if row[0] == "room":
        within = ("and", ("le", NOUGHT, row[1]), ("eq", size, row[1]))
        below = ("and", ("le", one_more(row[1]), NOUGHT), ("eq", size, NOUGHT))
        more.append(("or", within, below))
    return [more]


def _floor(ground, node):
    term = node[1]
    if not ground.has_term(term) or term[0] not in ("div", "mod"):
        return None
    _, whole, by = term
    down, rest = ("div", whole, by), ("mod", whole, by)
    return [[("eq", whole, ("add", ("mul", by, down), rest)), ("le", NOUGHT, rest), ("le", rest, ("num", by - 1))]]


def _unfold(ground, node):
    term = node[1]
    if not ground.has_term(term) or term[0] != "notion":
        return None
    notion = ground.facts.notion(term[1])
    if notion is None or not places_fit(term[2], notion[3]):
        return None
    by = {letter: place for (letter, _), place in zip(notion[3], term[2])}
    last = term[2][-1]
    return [[("le", last, NOUGHT), ("eq", term, put_in(notion[4], by))],
            [("le", ONE, last), ("eq", term, put_in(notion[5], by))]]


RULES = {
    "lines": _lines,
    "parts": _parts,
    "cases": _cases,
    "take": _take,
    "put": _put,
    "alike": _alike,
    "write": _write,
    "bare": _bare,
    "size": _size,
    "floor": _floor,
    "unfold": _unfold,
}
