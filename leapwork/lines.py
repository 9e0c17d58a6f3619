"""Lines: sums that are at most, or just, a number; and lines made of lines."""

from leapwork.errors import BadLine
from leapwork.names import is_whole
from leapwork.sums import Forms, sum_of


class Line:
    """Says that its pairs (atom, weight), added up, are at most its number ("le"), or just it ("eq")."""

    def __init__(self, kind, pairs, number):
        self.kind = kind
        self.pairs = tuple(pairs)
        self.number = number

    def __eq__(self, other):
        if not isinstance(other, Line):
            return False
        return self.kind == other.kind and self.number == other.number and _alike(self.pairs, other.pairs)

    def __len__(self):
        return len(self.pairs)


class Numbering:
    """Lines with numbers of forms for their atoms: (kind, {atom's number: weight}, number)."""

    def __init__(self):
        # The atoms by their numbers, each as it stands where it is first met.
        self.atoms = {}
        self._forms = Forms()

    def of_saying(self, saying):
        """The line that a saying is, so; or None."""
        sides = _sides_of(saying)
        if sides is None:
            return None
        kind, low, high = sides
        weights, number = self._forms.reckoned(_less(low, high))
        return kind, {atom: weights[atom][1] for atom in weights if weights[atom][1] != 0}, -number

    def numbered(self, line):
        """The line so; None of None, which stands for a saying that is no line."""
        if line is None:
            return None
        weights = {}
        for atom, weight in line.pairs:
            number = self._forms.atom_number(atom)
            self.atoms.setdefault(number, atom)
            weights[number] = weights.get(number, 0) + weight
        return line.kind, weights, line.number


def line_of(saying):
    """The line that a saying is, or None."""
    sides = _sides_of(saying)
    if sides is None:
        return None
    kind, low, high = sides
    pairs, number = sum_of(_less(low, high))
    return Line(kind, pairs, -number)


def made(lines, weights, *, divisor=1):
    """The line that lines make by weights and a divisor; or BadLine."""
    numbering = Numbering()
    _, left, number = made_of([numbering.numbered(line) for line in lines], weights, divisor)
    return Line("le", tuple([(numbering.atoms[atom], left[atom]) for atom in left]), number)


def is_closed(line):
    """Whether a line has no pairs and isn't so."""
    return len(line) == 0 and is_never(line.kind, line.number)


def is_never(kind, number):
    """Whether nought isn't at most, or isn't just, this number."""
    return number < 0 or (kind == "eq" and number != 0)


def made_of(lines, weights, divisor):
    """The numbered line that numbered lines make, None standing where there is no line; or BadLine."""
    if not isinstance(weights, tuple):
        raise BadLine(0)
    for place, pair in enumerate(weights):
        if not _is_right(pair, lines):
            raise BadLine(place)
    added = {}
    number = 0
    for place, weight in weights:
        _, others, most = lines[place]
        number += weight * most
        for atom in others:
            added[atom] = added.get(atom, 0) + weight * others[atom]
    left = {atom: added[atom] for atom in added if added[atom] != 0}
    if not is_whole(divisor) or divisor < 1 or any([left[atom] % divisor != 0 for atom in left]):
        raise BadLine(-1)
    return "le", {atom: left[atom] // divisor for atom in left}, number // divisor


def _sides_of(saying):
    """Of a saying that is a line its kind and what is at most, or just, what; None of all else."""
    if saying[0] in ("le", "eq"):
        return saying
    if saying[0] == "not" and saying[1][0] == "le":
        _, high, low = saying[1]
        return "le", ("add", low, ("num", 1)), high
    return None


def _less(low, high):
    """The term that is by how much low is more than high."""
    return ("add", low, ("mul", -1, high))


def _is_right(pair, lines):
    """Whether anything is a tuple of a line's place and a weight that this line may have."""
    if not isinstance(pair, tuple) or len(pair) != 2:
        return False
    place, weight = pair
    if not is_whole(place) or not 0 <= place < len(lines) or not is_whole(weight):
        return False
    if lines[place] is None:
        return False
    return weight >= 0 or lines[place][0] == "eq"


def _alike(pairs, others):
    """Whether both have the same pairs, each as often, in any order, by the forms of their atoms."""
    forms = Forms()
    ones = sorted([(forms.atom_number(atom), weight) for atom, weight in pairs])
    return ones == sorted([(forms.atom_number(atom), weight) for atom, weight in others])
