"""One look at a term or saying: its worth, and what it counts.

All parts are reckoned, and what has a part without a worth has none itself.
So a look ends at the first part that has none, and the order in which the
parts are reckoned can't be seen.
"""

from leapwork.names import is_whole
from leapwork.notions import firm, places_fit
from leapwork.rows import number_at, room_of, with_number
from leapwork.terms import notion_terms_in, parts_of

# What a look counts at most.
MOST = 400

# In a notion's more, where its own term stood: no letter of a notion is a number.
_ITSELF = 0


class Firm:
    """The notions of a dict that stand firm, made ready to be opened when one is first asked for."""

    def __init__(self, notions):
        self._notions = notions
        self._ready = None

    def ready(self, name):
        """The notion of this name, ready to be opened; None where it doesn't stand firm."""
        if self._ready is None:
            self._ready = {each: Ready(self._notions[each]) for each in firm(self._notions)}
        return self._ready.get(name)


class Ready:
    """A notion whose terms are laid out in the order in which they are reckoned."""

    def __init__(self, notion):
        _, name, _, letters, zero, more = notion
        self.letters = letters
        self.names = [letter for letter, _ in letters]
        self.zero = in_order(zero, None)
        self.more = in_order(more, name)
        # The places that its own term in more hands it; empty where there is none.
        self.own = [in_order(place, None) for term in notion_terms_in(more) if term[1] == name for place in term[2]]


class Look:
    """A look, with its own count."""

    def __init__(self, firm_ones):
        self.count = 0
        self._firm = firm_ones

    def worth(self, thing, table):
        """The worth of a term or row term, the truth of a plain saying, or None."""
        return self._reckoned(in_order(thing, None), table)

    def truth(self, saying, table):
        """The truth of a saying, or None."""
        return self.seen(saying, table)[0]

    def seen(self, saying, table):
        """The truth of a saying, or None, and the first place at which an all isn't so, or None."""
        if saying[0] == "all":
            return self._gone_through(saying, table)
        return self.worth(saying, table), None

    def _gone_through(self, saying, table):
        """Of an all its truth, or None, and the first place at which it isn't so, or None."""
        _, low, high, inner = saying
        place, end = self.worth(low, table), self.worth(high, table)
        if place is None or end is None:
            return None, None
        steps = in_order(inner, None)
        table = dict(table)
        while place < end:
            if not self._counts():
                return None, None
            table["own"] = place
            truth = self._reckoned(steps, table)
            if truth is not True:
                return truth, (place if truth is False else None)
            place += 1
        return True, None

    def _counts(self):
        """Count one; whether the look is still within its bound."""
        if self.count <= MOST:
            self.count += 1
        return self.count <= MOST

    def _reckoned(self, steps, table):
        """What a thing comes to that is laid out in order, or None."""
        made = []
        for part, many in steps:
            word = part[0]
            inner = [made.pop() for _ in range(many)]
            if word in ("name", "row"):
                worth = _letter(part, table)
            elif word == "notion":
                worth = self._notion(part, inner)
            else:
                action = ACTIONS[word]
                worth = action(part, inner)
            if worth is None:
                return None
            made.append(worth)
        return made[0]

    def _notion(self, term, worths):
        """The worth of a notion's term whose places have these worths, or None."""
        ready = self._firm.ready(term[1])
        if ready is None or not places_fit(term[2], ready.letters):
            return None
        return self._opened(ready, worths)

    def _opened(self, ready, worths):
        """The worth of a notion at these worths, or None.

        Itself in more is gone down to first, then the worths are reckoned
        from the lowest one up: it may be opened hundreds of times.
        """
        last = ready.names[-1]
        tables = []
        while True:
            if not self._counts():
                return None
            table = dict(zip(ready.names, worths))
            tables.append(table)
            if table[last] <= 0 or not ready.own:
                break
            worths = [self._reckoned(steps, table) for steps in ready.own]
            if None in worths:
                return None
        lowest = tables.pop()
        worth = self._reckoned(ready.zero if lowest[last] <= 0 else ready.more, lowest)
        for table in tables[::-1]:
            if worth is None:
                return None
            table[_ITSELF] = worth
            worth = self._reckoned(ready.more, table)
        return worth


def in_order(thing, itself):
    """The parts of a thing, each with how many are right within it, inner ones ahead.

    The terms of the notion named itself are put by a letter, and not gone into.
    """
    found = []
    todo = [thing]
    while todo:
        part = todo.pop()
        if part[:2] == ("notion", itself):
            found.append((("name", _ITSELF), 0))
        else:
            parts = parts_of(part)
            found.append((part, len(parts)))
            todo.extend(parts[::-1])
    return found[::-1]


def _letter(part, table):
    """The letter's worth, or None where the table has none of its kind."""
    worth = table.get(part[1])
    if part[0] == "row":
        return worth if isinstance(worth, tuple) else None
    return worth if is_whole(worth) else None


def _number(part, _):
    return part[1]


def _sum(_, inner):
    return inner[0] + inner[1]


def _product(part, inner):
    return part[1] * inner[0]


def _read(_, inner):
    return number_at(inner[0], inner[1])


def _size(_, inner):
    return inner[0][0]


def _quotient(part, inner):
    return inner[0] // part[2]


def _rest(part, inner):
    return inner[0] % part[2]


def _written(_, inner):
    return with_number(inner[0], inner[1], inner[2])


def _room(_, inner):
    return room_of(inner[0])


def _at_most(_, inner):
    return inner[0] <= inner[1]


def _equal(_, inner):
    return inner[0] == inner[1]


def _not(_, inner):
    return not inner[0]


def _both(_, inner):
    return inner[0] and inner[1]


def _either(_, inner):
    return inner[0] or inner[1]


ACTIONS = {
    "num": _number,
    "add": _sum,
    "mul": _product,
    "read": _read,
    "size": _size,
    "div": _quotient,
    "mod": _rest,
    "with": _written,
    "room": _room,
    "le": _at_most,
    "eq": _equal,
    "not": _not,
    "and": _both,
    "or": _either,
}
