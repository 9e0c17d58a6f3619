"""What the points say of runs, written down once more in the plainest way: frames go within frames."""

from by_hand import Asked, NoWorth, deep_down
from leapwork.notions import firm

ROWS = ("row", "with", "room")


class Over(Exception):
    """The run is over."""


class Gave(Exception):
    """A frame gives."""


class Lost(Exception):
    """A claim can't go on at its guard."""


class TooMany(Exception):
    """More than sixty uses were begun."""


def kind_of(thing):
    return "row" if thing[0] in ROWS else "number"


def many_in(statements):
    many = 0
    for statement in statements:
        many += 1
        if statement[0] == "if":
            many += many_in(statement[2]) + many_in(statement[3])
        if statement[0] == "while":
            many += many_in(statement[3])
    return many


def written_in(statements):
    found = []
    for statement in statements:
        if statement[0] in ("set", "put", "row", "do"):
            found.append(statement[1])
        if statement[0] == "if":
            found += written_in(statement[2]) + written_in(statement[3])
        if statement[0] == "while":
            found += written_in(statement[3])
    return found


def reads_in(thing):
    """The reads in a thing, inner ones ahead."""
    found = []
    for part in thing:
        if isinstance(part, tuple):
            found += reads_in(part)
    return found + [thing] if thing and thing[0] == "read" else found


def inside(row, place):
    return ("and", ("le", ("num", 0), place), ("le", ("add", place, ("num", 1)), ("size", row)))


def places_of(statement):
    word = statement[0]
    terms = {"set": statement[2:], "put": statement[2:], "row": statement[2:], "do": statement[3:], "if": statement[1:2],
             "while": statement[1:2], "give": statement[1:2]}.get(word, ())
    sayings = [inside(read[1], read[2]) for read in reads_in(terms)]
    if word == "put":
        sayings.append(inside(("row", statement[1]), statement[2]))
    return sayings


def letters_of(text):
    return text[2]


def own_of(text):
    return text[3] if text[0] == "work" else ()


def needs_of(text):
    return text[5] if text[0] == "work" else text[3]


def gives_of(text):
    return text[6] if text[0] == "work" else text[4]


def spends_of(text):
    return text[7] if text[0] == "work" else text[5]


def fits(book, text, statement):
    name, places = statement[-2:]
    called = book.get(name)
    if called is None or called[0] != {"do": "work", "use": "claim"}[statement[0]]:
        return None
    if [kind_of(place) for place in places] != [kind for _, kind in called[2]]:
        return None
    if statement[0] == "do" and dict(own_of(text))[statement[1]] != called[4]:
        return None
    return called


class Runner:
    def __init__(self, book, ticks, looks):
        self.book, self.most, self.looks = book, ticks, looks
        self.notions = {name: text for name, text in book.items() if text[0] == "notion"}
        self.firm = firm(self.notions)
        self.ticks, self.passed, self.works, self.claims, self.begun = 0, [], 0, 0, 0
        self.left = {}

    def worth(self, thing, table):
        try:
            return deep_down(lambda: Asked(self.notions, self.firm).truth(thing, table))
        except NoWorth:
            return None

    def first(self, saying, table):
        k = self.worth(saying[1], table)
        while self.worth(saying[3], {**table, "own": k}):
            k += 1
        return k

    def pass_over(self, owner, look):
        if (owner, look) not in self.passed:
            self.passed.append((owner, look))

    def look(self, name, look, saying, table, way, met):
        if not self.looks:
            return
        truth = self.worth(saying, table)
        if truth is None:
            self.pass_over(name, look)
        elif truth is False:
            met = dict(met)
            if saying[0] == "all":
                met[("fresh",)] = self.first(saying, table)
            raise Over(("break", name, look, way, met))

    def tick(self):
        if self.ticks >= self.most:
            raise Over(("tired",))
        self.ticks += 1

    def great(self, worth):
        if isinstance(worth, int) and len(str(abs(worth))) > 200:
            raise Over(("great",))

    def run(self, text, worths):
        table = dict(zip([letter for letter, _ in letters_of(text)], worths))
        try:
            if self.looks:
                for part, need in enumerate(needs_of(text)):
                    truth = self.worth(need, table)
                    if truth is None:
                        self.pass_over(text[1], (0, "needs", part))
                    elif not truth:
                        raise Over(("unfit", part))
            end = ("gave", self.work(text, worths) if text[0] == "work" else self.claim(text, worths))
        except Over as over:
            end = over.args[0]
        except Lost as lost:
            end = ("lost", lost.args[0])
        return end, self.ticks, self.passed

    def begin(self, text, worths):
        table = dict(zip([letter for letter, _ in letters_of(text)], worths))
        met = tuple((("input", letter), table[letter]) for letter in table)
        table.update({letter: 0 if kind == "number" else (0, ()) for letter, kind in own_of(text)})
        self.look(text[1], (0, "spends", 0), ("le", ("num", 0), spends_of(text)), table, (), met)
        table["left"] = self.worth(spends_of(text), table) if self.looks else None
        return table, met

    def work(self, text, worths):
        self.works += 1
        table, met = self.begin(text, worths)
        try:
            self.block(text, table, text[-1], 1, (), met)
        except Gave as gave:
            self.works -= 1
            return gave.args[0]
        raise AssertionError("no give")

    def block(self, text, table, block, number, way, met):
        """The way and what was met behind the block."""
        for statement in block:
            way, met = self.statement(text, table, statement, number, way, met)
            number += many_in((statement,))
        return way, met

    def statement(self, text, table, statement, number, way, met):
        word = statement[0]

        def look(which, part, saying, inner):
            self.look(text[1], (number, which, part), saying, inner, way, met)

        def look_at_places():
            for part, saying in enumerate(places_of(statement)):
                self.look(text[1], (number, "place", part), saying, table, way, met)
        if word == "while":
            return self.loop(text, table, statement, number, way, met)
        if text[0] == "work":
            look_at_places()
        if word == "set":
            worth = self.worth(statement[2], table)
            self.great(worth)
            table[statement[1]] = worth
        elif word == "put":
            self.great(self.worth(statement[3], table))
            table[statement[1]] = self.worth(("with", ("row", statement[1]), statement[2], statement[3]), table)
        elif word == "row":
            if statement[2][0] == "room":
                look("room", 0, ("le", ("num", 0), statement[2][1]), table)
                if self.worth(statement[2][1], table) > 10 ** 6:
                    raise Over(("great",))
            table[statement[1]] = self.worth(statement[2], table)
        elif word == "do":
            met = self.do(text, table, statement, number, way, met, look)
        elif word == "if":
            truth = self.worth(statement[1], table)
            if truth is None:
                raise Lost(number)
            if truth:
                return self.block(text, table, statement[2], number + 1, way + (("then", number),), met)
            first = number + 1 + many_in(statement[2])
            return self.block(text, table, statement[3], first, way + (("else", number),), met)
        elif word == "hold":
            look("hold", 0, statement[1], table)
        elif word == "use":
            if self.looks:
                self.use(text, table, statement, number, look)
        elif word == "give":
            worth = self.worth(statement[1], table)
            self.great(worth)
            for part, saying in enumerate(gives_of(text)):
                look("gives", part, saying, {**table, "given": worth})
            raise Gave(worth)
        return way, met

    def loop(self, text, table, statement, number, way, met):
        _, guard, keeps, block = statement
        for part, keep in enumerate(keeps):
            self.look(text[1], (number, "keeps", part), keep, table, way, met)
        while True:
            here = met + tuple((("loop", number, letter), table[letter]) for letter in written_in(block) + ["left"])
            for part, saying in enumerate(places_of(statement)):
                self.look(text[1], (number, "place", part), saying, table, way, here)
            if not self.worth(guard, table):
                return way + (("past", number),), here
            self.tick()
            if table["left"] is not None:
                table["left"] -= 1
            inner = way + (("in", number),)
            self.look(text[1], (number, "round", 0), ("le", ("num", 0), ("name", "left")), table, inner, here)
            inner, here = self.block(text, table, block, number + 1, inner, here)
            for part, keep in enumerate(keeps):
                self.look(text[1], (number, "again", part), keep, table, inner, here)

    def pay(self, table, called, inner):
        spends = self.worth(spends_of(called), inner)
        table["left"] = None if None in (spends, table["left"]) else table["left"] - 1 - spends

    def do(self, text, table, statement, number, way, met, look):
        called = fits(self.book, text, statement)
        if called is None:
            raise Over(("stuck", statement[2]))
        worths = tuple(self.worth(place, table) for place in statement[3])
        inner = dict(zip([letter for letter, _ in letters_of(called)], worths))
        for part, need in enumerate(needs_of(called)):
            look("needs", part, need, inner)
        if self.works == 20:
            raise Over(("deep",))
        self.tick()
        if self.looks:
            self.pay(table, called, inner)
            look("left", 0, ("le", ("num", 0), ("name", "left")), table)
        for worth in worths:
            self.great(worth)
        table[statement[1]] = self.work(called, worths)
        return met + ((("do", number), table[statement[1]]),)

    def use(self, text, table, statement, number, look):
        here = (text[1], (number, "use", 0))
        called = fits(self.book, text, statement)
        worths = tuple(self.worth(place, table) for place in statement[2])
        if called is None or None in worths:
            self.pass_over(*here)
            return
        inner = dict(zip([letter for letter, _ in letters_of(called)], worths))
        for part, need in enumerate(needs_of(called)):
            look("needs", part, need, inner)
        if text[0] == "claim":
            if not self.works:
                self.tick()
            self.pay(table, called, inner)
            look("left", 0, ("le", ("num", 0), ("name", "left")), table)
        if self.claims == 20:
            self.pass_over(*here)
            return
        outermost = self.claims == (0 if self.works else 1)
        claims = self.claims
        if outermost:
            self.begun = 0
        else:
            self.begun += 1
            if self.begun > 60:
                raise TooMany
        try:
            self.claim(called, worths)
        except Lost:
            self.claims = claims
            self.pass_over(*here)
        except TooMany:
            if not outermost:
                raise
            self.claims = claims
            self.pass_over(*here)

    def claim(self, text, worths):
        self.claims += 1
        table, met = self.begin(text, worths)
        way, met = self.block(text, table, text[-1], 1, (), met)
        for part, saying in enumerate(gives_of(text)):
            self.look(text[1], (many_in(text[-1]) + 1, "gives", part), saying, table, way, met)
        self.claims -= 1


def walked_by_hand(book, name, inputs, ticks=2000):
    return Runner(book, ticks, True).run(book[name], inputs)


def bare_by_hand(book, name, inputs, ticks=2000):
    return Runner(book, ticks, False).run(book[name], inputs)
