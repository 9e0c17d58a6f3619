"""What the points say of goals and leaps, written down once more in the plainest way."""

from by_hand import Asked, NoWorth, deep_down
from leapwork.judge import is_bundle
from leapwork.notions import firm
from runs_by_hand import (
    fits, gives_of, letters_of, many_in, needs_of, own_of, places_of, spends_of, written_in,
)

ORDER = ["spends", "keeps", "place", "room", "needs", "left", "hold", "round", "again", "gives"]


def put(thing, terms):
    """The thing with terms for its letters."""
    if not isinstance(thing, tuple):
        return thing
    if thing[:1] in (("name",), ("row",)) and len(thing) == 2:
        return terms.get(thing[1], thing)
    if thing[:1] == ("all",):
        terms = {letter: terms[letter] for letter in terms if letter != "own"}
    return tuple(put(part, terms) for part in thing)


def fresh(letter, kind):
    return ("name" if kind == "number" else "row", ("fresh letter", letter))


def fresh_in(thing):
    """The fresh letters in a thing, as they stand."""
    if not isinstance(thing, tuple):
        return []
    if thing[:1] in (("name",), ("row",)) and isinstance(thing[1], tuple):
        return [thing[1][1]]
    return [letter for part in thing for letter in fresh_in(part)]


def with_numbers(thing, letters):
    if not isinstance(thing, tuple):
        return thing
    if thing[:1] in (("name",), ("row",)) and isinstance(thing[1], tuple):
        return (thing[0], letters.index(thing[1][1]))
    return tuple(with_numbers(part, letters) for part in thing)


def bundle_of(sayings):
    letters = []
    for saying in sayings:
        for letter in fresh_in(saying):
            if letter not in letters:
                letters.append(letter)
    bundle = [with_numbers(saying, letters) for saying in sayings]
    return (bundle, tuple(letters)) if is_bundle(bundle) else (None, ())


class Layer:
    """All ways through a text; a state is (way, the letters' terms, what is supposed)."""

    def __init__(self, book, text):
        self.book, self.text, self.goals = book, text, []

    def look(self, state, look, saying, terms=None):
        way, own, supposed = state
        terms = own if terms is None else terms
        if saying[0] == "all":
            k = fresh(("fresh",), "number")
            low, high = put(saying[1], terms), put(saying[2], terms)
            more = [("le", low, k), ("le", ("add", k, ("num", 1)), high), ("not", put(saying[3], {**terms, "own": k}))]
        else:
            more = [("not", put(saying, terms))]
        self.goals.append((way, look, *bundle_of(supposed + more)))
        return way, own, supposed + [put(saying, terms)]

    def looks(self, state, number, word, sayings, terms=None):
        for part, saying in enumerate(sayings):
            state = self.look(state, (number, word, part), saying, terms)
        return state

    def whole(self):
        terms = {letter: fresh(("input", letter), kind) for letter, kind in letters_of(self.text)}
        for letter, kind in own_of(self.text):
            terms[letter] = ("num", 0) if kind == "number" else ("room", ("num", 0))
        supposed = [put(need, terms) for need in needs_of(self.text)]
        spends = spends_of(self.text)
        state = self.look(((), terms, supposed), (0, "spends", 0), ("le", ("num", 0), spends))
        terms = {**terms, "left": put(spends, terms)}
        states = self.block([(state[0], terms, state[2])], self.text[-1], 1)
        for state in states:
            self.looks(state, many_in(self.text[-1]) + 1, "gives", gives_of(self.text))
        return sorted(self.goals, key=lambda goal: (goal[1][0], ORDER.index(goal[1][1]), goal[1][2],
                                                    [word in ("else", "past") for word, _ in goal[0]]))

    def block(self, states, block, number):
        for statement in block:
            states = [after for state in states for after in self.statement(state, statement, number)]
            number += many_in((statement,))
        return states

    def statement(self, state, statement, number):
        word = statement[0]
        if word == "while":
            return self.loop(state, statement, number)
        if self.text[0] == "work":
            state = self.looks(state, number, "place", places_of(statement))
        way, terms, supposed = state
        if word == "set":
            return [(way, {**terms, statement[1]: put(statement[2], terms)}, supposed)]
        if word == "put":
            row = ("with", terms[statement[1]], put(statement[2], terms), put(statement[3], terms))
            return [(way, {**terms, statement[1]: row}, supposed)]
        if word == "row":
            if statement[2][0] == "room":
                state = self.look(state, (number, "room", 0), ("le", ("num", 0), statement[2][1]))
            return [(way, {**terms, statement[1]: put(statement[2], terms)}, state[2])]
        if word == "if":
            guard = put(statement[1], terms)
            one = (way + (("then", number),), terms, supposed + [guard])
            other = (way + (("else", number),), terms, supposed + [("not", guard)])
            first = number + 1 + many_in(statement[2])
            return self.block([one], statement[2], number + 1) + self.block([other], statement[3], first)
        if word == "hold":
            return [self.look(state, (number, "hold", 0), statement[1])]
        if word == "give":
            self.looks(state, number, "gives", gives_of(self.text), {**terms, "given": put(statement[1], terms)})
            return []
        return self.call(state, statement, number)

    def call(self, state, statement, number):
        called = fits(self.book, self.text, statement)
        if called is None:
            return []
        terms = state[1]
        inner = {letter: put(place, terms) for (letter, _), place in zip(letters_of(called), statement[-1])}
        state = self.looks(state, number, "needs", needs_of(called), inner)
        if statement[0] == "do" or self.text[0] == "claim":
            cost = ("mul", -1, put(spends_of(called), inner))
            terms = {**terms, "left": ("add", ("add", terms["left"], ("num", -1)), cost)}
            state = self.look((state[0], terms, state[2]), (number, "left", 0), ("le", ("num", 0), ("name", "left")))
        if statement[0] == "do":
            inner["given"] = fresh(("do", number), called[4])
            terms = {**terms, statement[1]: inner["given"]}
        return [(state[0], terms, state[2] + [put(give, inner) for give in gives_of(called)])]

    def loop(self, state, statement, number):
        _, guard, keeps, block = statement
        way, terms, supposed = self.looks(state, number, "keeps", keeps)
        kinds = {**dict(own_of(self.text)), "left": "number"}
        terms = {**terms, **{letter: fresh(("loop", number, letter), kinds[letter])
                             for letter in written_in(block) + ["left"]}}
        state = (way, terms, supposed + [put(keep, terms) for keep in keeps])
        way, terms, supposed = self.looks(state, number, "place", places_of(statement))
        less = {**terms, "left": ("add", terms["left"], ("num", -1))}
        inner = (way + (("in", number),), less, supposed + [put(guard, terms)])
        inner = self.look(inner, (number, "round", 0), ("le", ("num", 0), ("name", "left")))
        for end in self.block([inner], block, number + 1):
            self.looks(end, number, "again", keeps)
        return [(way + (("past", number),), terms, supposed + [("not", put(guard, terms))])]


def goals_by_hand(book, name):
    return Layer(book, book[name]).whole()


def leaps_over_the_bundle(book, goal, worths):
    """What a leap tells where no saying's look is too long: the first of the bundle that isn't so, or has no worth."""
    _, look, bundle, _ = goal
    notions = {name: text for name, text in book.items() if text[0] == "notion"}
    table = dict(enumerate(worths))
    for number, saying in enumerate(bundle):
        try:
            truth = deep_down(lambda: Asked(notions, firm(notions)).truth(saying, table))
        except NoWorth:
            return ("passed", number)
        if not truth:
            return ("so",) if number == len(bundle) - 1 else ("astray", number)
    return ("breaks",)
