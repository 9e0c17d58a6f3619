"""What the points say, written down once more in the plainest way, to be held against the program."""

import functools
import sys

from samples import A, B, R, S



class NoWorth(Exception):
    pass


def deep_down(action):
    """What an action tells that goes within itself as often as a notion is opened, which the program never does."""
    most = sys.getrecursionlimit()
    sys.setrecursionlimit(20000)
    try:
        return action()
    finally:
        sys.setrecursionlimit(most)


class Asked:
    """One look, gone through part by part."""

    def __init__(self, notions, firm):
        self.notions, self.firm, self.count = notions, firm, 0

    def one_more(self):
        self.count += 1
        if self.count > 400:
            raise NoWorth

    def worth(self, thing, table):
        word = thing[0]
        if word == "num":
            return thing[1]
        if word in ("name", "row"):
            kind = int if word == "name" else tuple
            if not isinstance(table.get(thing[1]), kind):
                raise NoWorth
            return table[thing[1]]
        if word == "notion":
            return self.notion(thing, table)
        of = [self.worth(part, table) for part in thing[1:] if isinstance(part, tuple)]
        if word == "add":
            return of[0] + of[1]
        if word == "mul":
            return thing[1] * of[0]
        if word == "read":
            return dict(of[0][1]).get(of[1], 0)
        if word == "size":
            return of[0][0]
        if word == "div":
            return (of[0] - of[0] % thing[2]) // thing[2]
        if word == "mod":
            return of[0] - thing[2] * (of[0] // thing[2])
        if word == "with":
            places = {**dict(of[0][1]), of[1]: of[2]}
            return (of[0][0], tuple(sorted((place, number) for place, number in places.items() if number)))
        if word == "room":
            return (max(0, of[0]), ())
        return {"le": lambda: of[0] <= of[1], "eq": lambda: of[0] == of[1], "not": lambda: not of[0],
                "and": lambda: of[0] and of[1], "or": lambda: of[0] or of[1]}[word]()

    def notion(self, term, table):
        _, name, places = term
        if name not in self.firm:
            raise NoWorth
        _, _, _, letters, zero, more = self.notions[name]
        kinds = ["row" if place[0] in ("row", "with", "room") else "number" for place in places]
        if kinds != [kind for _, kind in letters]:
            raise NoWorth
        worths = [self.worth(place, table) for place in places]
        self.one_more()
        inner = dict(zip([letter for letter, _ in letters], worths))
        return self.worth(zero if worths[-1] <= 0 else more, inner)

    def truth(self, saying, table):
        if saying[0] != "all":
            return self.worth(saying, table)
        place, end = self.worth(saying[1], table), self.worth(saying[2], table)
        while place < end:
            self.one_more()
            if not self.worth(saying[3], {**table, "own": place}):
                return False
            place += 1
        return True


def looked_by_hand(saying, table, notions, firm):
    """(truth, count), the count where there is a truth."""
    asked = Asked(notions, firm)
    try:
        return deep_down(lambda: asked.truth(saying, table)), asked.count
    except NoWorth:
        return None, None


def worth_by_hand(thing, table, notions, firm):
    try:
        return deep_down(lambda: Asked(notions, firm).worth(thing, table))
    except NoWorth:
        return None


@functools.cache
def form_by_hand(thing):
    if thing[0] in ("row", "with", "room"):
        return with_forms(thing)
    pairs = {}
    number = 0
    for atom, weight in spread(thing, 1):
        if atom is None:
            number += weight
        else:
            pairs[with_forms(atom)] = pairs.get(with_forms(atom), 0) + weight
    return ("sum", tuple(sorted([pair for pair in pairs.items() if pair[1]], key=repr)), number)


def with_forms(thing):
    """An atom or row term, each number's term and row term within put by its form."""
    if thing[0] in ("name", "row"):
        return thing
    if thing[0] == "notion":
        return (thing[0], thing[1], tuple(form_by_hand(place) for place in thing[2]))
    return tuple(form_by_hand(part) if isinstance(part, tuple) else part for part in thing)


def spread(term, by):
    """The atoms of a term with their weights, as they are met; None stands for a number."""
    if term[0] == "num":
        return [(None, by * term[1])]
    if term[0] == "add":
        return spread(term[1], by) + spread(term[2], by)
    if term[0] == "mul":
        return spread(term[2], by * term[1])
    return [(term, by)]


def sum_by_hand(term):
    first, weights = {}, {}
    number = 0
    for atom, weight in spread(term, 1):
        if atom is None:
            number += weight
        else:
            first.setdefault(form_by_hand(atom), atom)
            weights[form_by_hand(atom)] = weights.get(form_by_hand(atom), 0) + weight
    return tuple((first[form], weights[form]) for form in first if weights[form]), number


def any_term(chance, deep, letters=(A, B), rows=(R, S), notions=()):
    """A term by chance, at most so many tuples within one another."""
    if deep <= 1 or chance.random() < 0.2:
        return chance.choice(letters) if chance.random() < 0.6 else ("num", chance.choice((-3, -1, 0, 1, 2, 7)))

    def term():
        return any_term(chance, deep - 1, letters, rows, notions)
    word = chance.choice(("add", "add", "mul", "read", "size", "div", "mod", *["notion"] * bool(notions)))
    if word == "add":
        return (word, term(), term())
    if word == "mul":
        return (word, chance.choice((-2, -1, 0, 1, 3)), term())
    if word in ("div", "mod"):
        return (word, term(), chance.choice((1, 2, 5)))
    if word == "notion":
        name, kinds = chance.choice(notions)
        return (word, name, tuple(term() if kind == "number" else any_row(chance, deep - 1, letters, rows, notions)
                                  for kind in kinds))
    row = any_row(chance, deep - 1, letters, rows, notions)
    return (word, row, term()) if word == "read" else (word, row)


def any_row(chance, deep, letters=(A, B), rows=(R, S), notions=()):
    if deep <= 1 or chance.random() < 0.4:
        return chance.choice(rows)
    if chance.random() < 0.3:
        return ("room", any_term(chance, deep - 1, letters, rows, notions))
    return ("with", any_row(chance, deep - 1, letters, rows, notions),
            any_term(chance, deep - 1, letters, rows, notions), any_term(chance, deep - 1, letters, rows, notions))


def any_plain(chance, deep, letters=(A, B), rows=(R, S), notions=()):
    word = chance.choice(("le", "eq", "not", "and", "or")) if deep > 2 else chance.choice(("le", "eq"))
    if word in ("le", "eq"):
        return (word, any_term(chance, deep - 1, letters, rows, notions),
                any_term(chance, deep - 1, letters, rows, notions))
    many = 1 if word == "not" else 2
    return (word, *[any_plain(chance, deep - 1, letters, rows, notions) for _ in range(many)])
