"""The code of works: rows that are run with a stack."""

from leapwork.blocks import block_of, oaths_of

# What each row takes from the stack, and what it lays on it; of all else nothing.
_EFFECTS = {
    "num": (0, "n"),
    "name": (0, "n"),
    "row": (0, "r"),
    "add": (2, "n"),
    "mul": (1, "n"),
    "read": (1, "n"),
    "size": (0, "n"),
    "div": (1, "n"),
    "mod": (1, "n"),
    "le": (2, "n"),
    "eq": (2, "n"),
    "not": (1, "n"),
    "and": (2, "n"),
    "or": (2, "n"),
    "room": (1, "r"),
    "set": (1, ""),
    "put": (2, ""),
    "unless": (1, ""),
}


class Coder:
    """Rows in the making."""

    def __init__(self, text, looked):
        self.rows = []
        self.gives = oaths_of(text)[1]
        self._looked = looked
        # How many statements were laid, and how many reads of the last one.
        self._number = 0
        self._reads = 0

    def lay(self, *row):
        """Lay a row; its number."""
        self.rows.append(row)
        return len(self.rows) - 1

    def lay_looked(self, *row):
        """Lay a row that bare code doesn't have."""
        if self._looked:
            self.rows.append(row)

    def lay_looks(self, number, word, sayings):
        """Lay the looks of a statement that have one word."""
        for part in range(len(sayings)):
            self.lay_looked("look", number, word, part)

    def block(self, block):
        """Lay a block."""
        for statement in block:
            self._number += 1
            self._reads = 0
            action = STATEMENTS[statement[0]]
            action(self, self._number, statement)

    def thing(self, number, thing):
        """Lay a term, a row's letter or a guard of a statement."""
        word = thing[0]
        if word in ("num", "name", "row"):
            self.lay(word, thing[1])
        elif word == "size":
            self.lay(word, thing[1][1])
        elif word == "read":
            self.thing(number, thing[2])
            self.place("place", number, thing[1][1])
            self.lay(word, thing[1][1])
        elif word == "mul":
            self.thing(number, thing[2])
            self.lay(word, thing[1])
        elif word in ("div", "mod"):
            self.thing(number, thing[1])
            self.lay(word, thing[2])
        else:
            for part in thing[1:]:
                self.thing(number, part)
            self.lay(word)

    def place(self, word, number, row):
        """Lay the look at a statement's next place."""
        self.lay_looked(word, number, self._reads, row)
        self._reads += 1

    def end_here(self, at):
        """Let the row that was laid there, which has a word alone, go on behind the last one."""
        self.rows[at] = (self.rows[at][0], len(self.rows))


def compiled(text, *, looked=True):
    """The rows of a work, looked-at or bare."""
    coder = Coder(text, looked)
    coder.lay_looked("begin")
    coder.block(block_of(text))
    return coder.rows


def heights(rows):
    """For each row the kinds on the stack as it is come to, None where it never is."""
    found = [None for _ in rows]
    todo = [(0, "")]
    while todo:
        at, kinds = todo.pop()
        if at < len(rows) and found[at] is None:
            found[at] = kinds
            todo.extend([(place, _behind(rows[at], kinds)) for place in _next(rows[at], at)])
    return found


def _behind(row, kinds):
    """The kinds on the stack behind a row."""
    taken, laid = (row[3], "") if row[0] == "do" else _EFFECTS.get(row[0], (0, ""))
    return kinds[:len(kinds) - taken] + laid


def _next(row, at):
    """Where one may go from a row."""
    if row[0] == "give":
        return ()
    if row[0] == "jump":
        return (row[1],)
    return (at + 1, row[1]) if row[0] == "unless" else (at + 1,)


def _set(coder, number, statement):
    coder.thing(number, statement[2])
    coder.lay("set", statement[1])


def _put(coder, number, statement):
    _, row, place, term = statement
    coder.thing(number, place)
    coder.thing(number, term)
    coder.place("edge", number, row)
    coder.lay("put", row)


def _row(coder, number, statement):
    _, row, thing = statement
    if thing[0] == "row":
        coder.thing(number, thing)
    else:
        coder.thing(number, thing[1])
        coder.lay_looked("look", number, "room", 0)
        coder.lay("room")
    coder.lay("set", row)


def _do(coder, number, statement):
    _, letter, name, places = statement
    for place in places:
        coder.thing(number, place)
    coder.lay("do", number, name, len(places), letter)


def _if(coder, number, statement):
    _, guard, one, other = statement
    coder.thing(number, guard)
    unless = coder.lay("unless")
    coder.block(one)
    jump = coder.lay("jump")
    coder.end_here(unless)
    coder.block(other)
    coder.end_here(jump)


def _while(coder, number, statement):
    _, guard, keeps, block = statement
    coder.lay_looks(number, "keeps", keeps)
    head = len(coder.rows)
    coder.thing(number, guard)
    unless = coder.lay("unless")
    coder.lay("round", number)
    coder.block(block)
    coder.lay_looks(number, "again", keeps)
    coder.lay("jump", head)
    coder.end_here(unless)


def _hold(coder, number, _):
    coder.lay_looked("look", number, "hold", 0)


def _use(coder, number, _):
    coder.lay_looked("use", number)


def _give(coder, number, statement):
    coder.thing(number, statement[1])
    coder.lay_looks(number, "gives", coder.gives)
    coder.lay("give", number)


STATEMENTS = {
    "set": _set,
    "put": _put,
    "row": _row,
    "do": _do,
    "if": _if,
    "while": _while,
    "hold": _hold,
    "use": _use,
    "give": _give,
}
