"""Sums of terms, and forms, by which two spellings of one thing are told to be one."""

from leapwork.terms import TERMS, parts_of, rebuilt

# Things with more parts than this may have one part standing many times over,
# each time within more others, so that they can't be gone through as they stand.
_GREAT = 4000


class Forms:
    """Forms, a number for each: what has one form has one number."""

    def __init__(self):
        self._numbers = {}
        self._forms = []

    def form(self, number):
        """The form that has this number."""
        return self._forms[number]

    def number_of(self, thing):
        """The number of the form of a term or row term."""
        return self._number(thing, self.reckoned(thing))

    def atom_number(self, atom):
        """The number of an atom's form as it stands in the pairs of a sum."""
        weights, _ = self.reckoned(atom)
        return list(weights)[0]

    def reckoned(self, thing):
        """Of a row term its form's number; of a term its sum: (weights, number).

        Weights are {number of an atom's form: (the atom as met first, weight)}
        in the order of meeting, also where the weight is 0.
        """
        reckoned = []
        for part, places in parts_once(thing):
            reckoned.append(self._of_part(part, [reckoned[place] for place in places], parts_of(part)))
        return reckoned[-1]

    def _of_part(self, part, inner, parts):
        """Of one part its sum or its form's number, told those of the parts within it."""
        word = part[0]
        if word == "num":
            return {}, part[1]
        if word == "add":
            return _added(inner[0], inner[1])
        if word == "mul":
            return _scaled(part[1], inner[0])
        numbers = [self._number(each, worth) for each, worth in zip(parts, inner)]
        own = self._numbered(rebuilt(part, numbers), rebuilt(part, [self._forms[number] for number in numbers]))
        return ({own: (part, 1)}, 0) if word in TERMS else own

    def _number(self, thing, reckoned):
        """The number of a form, told the sum of a term, or the number of a row term itself."""
        if thing[0] not in TERMS:
            return reckoned
        weights, number = reckoned
        left = [(atom, weights[atom][1]) for atom in weights if weights[atom][1] != 0]
        pairs = _by_repr([(self._forms[atom], weight) for atom, weight in left])
        return self._numbered(("sum", tuple(sorted(left)), number), ("sum", tuple(pairs), number))

    def _numbered(self, key, form):
        """The number of this form, which is kept once: so equal forms are the very same."""
        if key not in self._numbers:
            self._numbers[key] = len(self._forms)
            self._forms.append(form)
        return self._numbers[key]


def form_of(thing):
    """The form of a term or row term."""
    forms = Forms()
    return forms.form(forms.number_of(thing))


def sum_of(term):
    """The sum of a term: its atoms with their weights, as they were met first, and its number."""
    weights, number = Forms().reckoned(term)
    return tuple([pair for pair in list(weights.values()) if pair[1] != 0]), number


def parts_once(thing):
    """The parts of a thing, each with the places in this list of those right within it, inner ones ahead.

    A part that stands many times over in a great thing stands here once.
    """
    great = _is_great(thing)
    found = []
    under_way = [(thing, [])]
    while under_way:
        part, places = under_way[-1]
        parts = parts_of(part)
        if len(places) < len(parts):
            inner = parts[len(places)]
            place = _place_of(inner, found) if great else None
            if place is None:
                under_way.append((inner, []))
            else:
                places.append(place)
        else:
            under_way.pop()
            found.append((part, places))
            if under_way:
                under_way[-1][1].append(len(found) - 1)
    return found


def _is_great(thing):
    """Whether a thing has more than _GREAT parts, each counted as often as it stands."""
    many = 0
    todo = [thing]
    while todo and many <= _GREAT:
        many += 1
        todo.extend(parts_of(todo.pop()))
    return many > _GREAT


def _place_of(part, found):
    """The place of a part among those found, or None."""
    for place in range(len(found) - 1, -1, -1):
        if found[place][0] == part:
            return place
    return None


def _added(one, other):
    """Two sums, added up."""
    weights, number = one
    more, more_number = other
    added = {atom: weights[atom] for atom in weights}
    for atom in more:
        first, weight = added.get(atom, (more[atom][0], 0))
        added[atom] = (first, weight + more[atom][1])
    return added, number + more_number


def _scaled(by, one):
    """A sum, multiplied by a whole number."""
    weights, number = one
    return {atom: (weights[atom][0], by * weights[atom][1]) for atom in weights}, by * number


def _by_repr(pairs):
    """Pairs of unlike forms and weights, sorted by repr."""
    rising = []
    for pair in pairs:
        low, high = 0, len(rising)
        while low < high:
            middle = (low + high) // 2
            if _is_ahead(pair[0], rising[middle][0]):
                high = middle
            else:
                low = middle + 1
        rising.insert(low, pair)
    return rising


def _is_ahead(one, other):
    """Whether the repr of one form is ahead of another's.

    Neither is written out, since a part may stand in it many times over:
    only the first parts that are unlike are gone into.
    """
    while isinstance(one, tuple):
        place = _first_unlike(one, other)
        if place is None:
            # Behind what both have stands ",)" or ", ", else ")" or ",", or ")" or "(" where one has nothing.
            return (len(one) < len(other)) == (min(len(one), len(other)) > 1)
        one, other = one[place], other[place]
    return repr(one) < repr(other)


def _first_unlike(one, other):
    """The first place at which two tuples are unlike, None where one is the other's beginning."""
    for place in range(min(len(one), len(other))):
        if one[place] != other[place]:
            return place
    return None
