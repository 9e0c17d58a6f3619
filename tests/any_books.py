"""Books of texts by chance, in which much fits and is so, and some things aren't."""

from by_hand import any_plain, any_row, any_term
from leapwork.texts import fault

NOTIONS = {
    "f": ("notion", "f", 0, (("n", "number"),), ("num", 1),
          ("add", ("num", 2), ("notion", "f", (("add", ("name", "n"), ("num", -1)),)))),
    "g": ("notion", "g", 1, (("r", "row"), ("n", "number")), ("num", 0),
          ("add", ("notion", "f", (("name", "n"),)), ("read", ("row", "r"), ("name", "n")))),
    # This one doesn't stand firm.
    "h": ("notion", "h", 0, (("n", "number"),), ("num", 0), ("notion", "f", (("name", "n"),))),
}
KINDS = {"f": ("number",), "g": ("row", "number"), "h": ("number",)}
INPUTS = (("a", "number"), ("b", "number"), ("r", "row"), ("s", "row"))
OWN = (("x", "number"), ("y", "number"), ("t", "row"), ("u", "row"))
NOUGHT = ("num", 0)
SPENDS = {"v": 10, "w": 100, "z": 1000, "c": 3, "d": 30, "e": 300}


class Maker:
    """Makes the texts of one book."""

    def __init__(self, chance):
        self.chance = chance
        self.name = "v"
        self.heads = {}
        for name in ("v", "w", "z"):
            self.heads[name] = ("work", self.some(INPUTS, 3), chance.choice(("number", "number", "row")))
        for name in ("c", "d", "e"):
            self.heads[name] = ("claim", self.some(INPUTS, 3), None)

    def some(self, letters, most):
        many = self.chance.randrange(most + 1)
        return tuple(sorted(self.chance.sample(letters, many)))

    def one_in(self, many):
        return self.chance.random() * many < 1

    def notions(self):
        names = ["f", "g"] + ["h"] * self.one_in(6) + ["k"] * self.one_in(12)
        return [(name, KINDS.get(name, ("number",))) for name in names]

    def letters(self, letters, *more):
        numbers = [("name", letter) for letter, kind in letters if kind == "number"]
        rows = [("row", letter) for letter, kind in letters if kind == "row"]
        return numbers + list(more) + [("num", 1)], rows

    def term(self, letters, deep, notions=(), more=()):
        numbers, rows = self.letters(letters, *more)
        return plain_rows(any_term(self.chance, deep, numbers, rows or [("room", ("num", 2))], notions), not notions)

    def row(self, letters, deep, notions):
        numbers, rows = self.letters(letters)
        return any_row(self.chance, deep, numbers, rows or [("room", ("num", 2))], notions)

    def saying(self, letters, more=(), alls=True):
        """A saying that is more often so than not."""
        kind = self.chance.random()
        notions = self.notions() if self.one_in(3) else ()
        if kind < 0.35:
            return ("le", ("num", self.chance.choice((-30, -2, 0))), self.term(letters, 3, notions, more))
        if kind < 0.5:
            term = self.term(letters, 3, notions, more)
            return ("eq", term, ("add", term, NOUGHT))
        if kind < 0.65 and alls:
            numbers, rows = self.letters(letters, *more, ("name", "own"))
            inner = any_plain(self.chance, 3, numbers, rows or [("room", ("num", 1))], notions)
            low, high = self.term(letters, 2, (), more), self.term(letters, 2, (), more)
            return ("all", NOUGHT if self.one_in(2) else low, high, ("or", inner, inner) if self.one_in(2) else inner)
        saying = self.guard(letters, more, notions)
        return ("or", saying, ("le", NOUGHT, self.term(letters, 2, (), more)))

    def guard(self, letters, more=(), notions=()):
        numbers, rows = self.letters(letters, *more)
        saying = any_plain(self.chance, 4, numbers, rows or [("room", ("num", 2))], notions)
        return saying if notions else no_rich_rows(saying)

    def sayings(self, letters, most, more=(), alls=True):
        return tuple(self.saying(letters, more, alls) for _ in range(self.chance.randrange(most + 1)))

    def place(self, kind, letters, rich):
        if kind == "number":
            return self.term(letters, 3, self.notions() if rich and self.one_in(3) else ())
        _, rows = self.letters(letters)
        if rich and (self.one_in(3) or not rows):
            return self.row(letters, 2, self.notions())
        return self.chance.choice(rows) if rows else None

    def places(self, due, letters, rich):
        places = [self.place(kind, letters, rich) for _, kind in due]
        if self.one_in(25):
            places = places[1:]
        return None if None in places else tuple(places)

    def call(self, word, letters, own, rich):
        names = [name for name in self.heads if self.heads[name][0] == ("work" if word == "do" else "claim")]
        names += [name for name in names if SPENDS[name] < SPENDS[self.name]] * 6
        name = self.chance.choice(names + ["f", "none"] * self.one_in(8))
        _, due, result = self.heads.get(name, (None, (("a", "number"),), "number"))
        places = self.places(due, letters, rich)
        if places is None:
            return None
        if word == "use":
            return ("use", name, places)
        into = [letter for letter, kind in own if kind == result] or [letter for letter, _ in own]
        return ("do", self.chance.choice(into), name, places) if into else None

    def statement(self, text, deep):
        letters, own, result = text
        word = self.chance.choice(("set", "set", "set", "put", "put", "row", "do", "do", "use", "hold", "if", "if", "while", "give"))
        numbers = [letter for letter, kind in own if kind == "number"]
        rows = [letter for letter, kind in own if kind == "row"]
        if word == "set" and numbers:
            return (word, self.chance.choice(numbers), self.term(letters, 3))
        if word == "put" and rows:
            place = ("num", self.chance.choice((0, 0, 1, 2))) if self.one_in(2) else self.term(letters, 3)
            return (word, self.chance.choice(rows), place, self.term(letters, 3))
        if word == "row" and rows:
            _, others = self.letters(letters)
            room = ("room", ("num", 3) if self.one_in(2) else self.term(letters, 3))
            return (word, self.chance.choice(rows), self.chance.choice(others + [room] * 2))
        if word in ("do", "use"):
            return self.call(word, letters, own, word == "use")
        if word == "hold":
            return (word, self.saying(letters, (("name", "left"),)))
        if word == "if" and deep:
            return (word, self.guard(letters), self.block(text, deep - 1, 2), self.block(text, deep - 1, 2))
        if word == "while" and deep and numbers:
            counter = self.chance.choice(numbers)
            guard = ("le", ("name", counter), ("num", self.chance.choice((0, 1, 2, 4))))
            if self.one_in(4):
                guard = self.guard(letters)
            step = ("set", counter, ("add", ("name", counter), ("num", 1)))
            block = self.block(text, deep - 1, 3)
            if not block or block[-1][0] not in ("give", "if"):
                block = block + (step,)
            else:
                block = (step,) + block
            return (word, guard, self.sayings(letters, 2, (("name", "left"),)), block)
        if word == "give" and self.one_in(3):
            return (word, self.given(letters, result))
        return None

    def given(self, letters, result):
        if result == "number":
            return self.term(letters, 3)
        _, rows = self.letters(letters)
        return self.chance.choice(rows)

    def block(self, text, deep, most):
        made = [self.statement(text, deep) for _ in range(self.chance.randrange(most + 1))]
        block = []
        for statement in made:
            if statement is not None:
                block.append(statement)
                if statement[0] == "give":
                    break
        return tuple(block)

    def spends(self, letters):
        kind = self.chance.random()
        if kind < 0.8:
            return ("num", self.chance.choice((3, *[SPENDS[self.name]] * 5)))
        return self.term(letters, 3, self.notions() if kind > 0.9 else ())

    def work(self, name):
        _, inputs, result = self.heads[name]
        own = self.some(OWN, 4)
        if result == "row" and not [1 for _, kind in inputs + own if kind == "row"]:
            own = own + (("t", "row"),)
        letters = inputs + own
        block = self.block((letters, own, result), 3, 7)
        if not block or block[-1][0] != "give":
            block = block + (("give", self.given(letters, result)),)
        given = (("name", "given"),) if result == "number" else ()
        gives = inputs if result == "number" else inputs + (("given", "row"),)
        return ("work", name, inputs, own, result, self.sayings(inputs, 1), self.sayings(gives, 2, given),
                self.spends(inputs), block)

    def claim_block(self, inputs, deep, most):
        block = []
        for _ in range(self.chance.randrange(most + 1)):
            word = self.chance.choice(("hold", "use", "use", "if"))
            if word == "hold":
                block.append((word, self.saying(inputs, (("name", "left"),))))
            elif word == "if" and deep:
                guard = self.guard(inputs, (), self.notions() if self.one_in(4) else ())
                block.append((word, guard, self.claim_block(inputs, deep - 1, 2), self.claim_block(inputs, deep - 1, 2)))
            else:
                use = self.call("use", inputs, (), True)
                block += [use] if use else []
        return tuple(block)

    def claim(self, name):
        _, inputs, _ = self.heads[name]
        return ("claim", name, inputs, self.sayings(inputs, 1), self.sayings(inputs, 2), self.spends(inputs),
                self.claim_block(inputs, 2, 3))

    def text(self, name):
        """A text of this name that breaks nothing."""
        self.name = name
        while True:
            text = self.work(name) if self.heads[name][0] == "work" else self.claim(name)
            if fault(text) is None:
                return text


def any_book(chance):
    """A book by chance; some names in it may be absent."""
    maker = Maker(chance)
    book = {name: maker.text(name) for name in maker.heads if not maker.one_in(15)}
    book.update(NOTIONS)
    return book


def any_worth(chance, kind):
    if kind == "number":
        return chance.choice((-2, -1, 0, 0, 1, 2, 3, 5))
    size = chance.choice((0, 1, 2, 3, 4))
    return (size, tuple((place, number) for place in range(size) if (number := chance.choice((-1, 0, 1, 2)))))


def any_inputs(chance, letters):
    return tuple(any_worth(chance, kind) for _, kind in letters)


def plain_rows(term, due):
    """The term with rows that are letters alone, where that is due."""
    if not due or not isinstance(term, tuple):
        return term
    return no_rich_rows(term)


def no_rich_rows(thing):
    """Each row term put by the letter that it is made of; a room by the term of its size."""
    if not isinstance(thing, tuple):
        return thing
    if thing[0] in ("read", "size"):
        row = thing[1]
        while row[0] == "with":
            row = row[1]
        if row[0] == "room":
            return no_rich_rows(row[1])
        return (thing[0], row, *[no_rich_rows(part) for part in thing[2:]])
    return tuple(no_rich_rows(part) for part in thing)
