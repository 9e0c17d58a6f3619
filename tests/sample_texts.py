"""Right texts of each kind, and how to make others that differ in one part."""

A, B, N, X, Y = ("name", "a"), ("name", "b"), ("name", "n"), ("name", "x"), ("name", "y")
R, S, ONE, NOUGHT = ("row", "r"), ("row", "s"), ("num", 1), ("num", 0)
OWN, LEFT, GIVEN = ("name", "own"), ("name", "left"), ("name", "given")
YES, LESS = ("le", NOUGHT, ONE), ("le", A, B)
LESS_ONE = ("add", N, ("num", -1))
NUMBERS = (("a", "number"), ("b", "number"))
ALL = ("all", NOUGHT, ("size", R), ("le", ("read", R, OWN), ONE))
GIVE = ("give", NOUGHT)
RICH = {"notion": ("notion", "f", (A,)), "with": ("size", ("with", R, A, A)), "room": ("size", ("room", A))}


def work(letters=(("a", "number"), ("r", "row")), own=(("x", "number"), ("s", "row")), result="number", needs=(), gives=(),
         spends=NOUGHT, statements=(GIVE,)):
    return ("work", "w", letters, own, result, needs, gives, spends, statements)


def claim(letters=(("a", "number"), ("r", "row")), needs=(), gives=(), spends=NOUGHT, statements=()):
    return ("claim", "c", letters, needs, gives, spends, statements)


def notion(floor=0, letters=(("r", "row"), ("n", "number")), zero=NOUGHT, more=NOUGHT):
    return ("notion", "f", floor, letters, zero, more)


def itself(*places):
    return ("notion", "f", places)


def deep(many):
    """A term of so many tuples within one another."""
    term = A
    for _ in range(many - 1):
        term = ("add", term, ONE)
    return term


def wide(many):
    """A term of so many tuples in all, few within one another."""
    return ("notion", "g", (A,) * (many - 2))


def ifs(many, inner=()):
    """So many ifs within one another."""
    for _ in range(many):
        inner = (("if", YES, inner, ()),)
    return inner


FULL = work(
    letters=(("a", "number"), ("b", "number"), ("r", "row"), ("s", "row")),
    own=(("x", "number"), ("y", "number"), ("t", "row"), ("u", "row")),
    needs=(LESS, ALL, ("le", RICH["notion"], RICH["with"]), ("not", ("eq", RICH["room"], A))),
    gives=(("eq", GIVEN, ("notion", "g", (R, A))), ALL, ("all", GIVEN, A, ("le", OWN, GIVEN))),
    spends=("add", RICH["notion"], ("add", RICH["room"], RICH["with"])),
    statements=(
        ("set", "x", ("add", ("read", R, ("div", A, 2)), ("size", S))), ("put", "t", X, ("mod", A, 3)), ("row", "t", S),
        ("row", "u", ("room", ("add", X, ("size", ("row", "t"))))), ("do", "x", "other", (A, R, ("row", "t"), X)),
        ("do", "t", "w", ()), ("hold", ("all", LEFT, X, ("le", ("read", ("with", S, OWN, X), OWN), RICH["notion"]))),
        ("use", "fact", (RICH["notion"], ("with", ("row", "t"), X, A), ("room", Y), R)),
        ("while", ("not", ("le", X, A)), (("le", NOUGHT, LEFT), ALL, ("le", RICH["notion"], RICH["room"])),
         (("set", "x", A), ("if", LESS, (("give", X),), (("set", "y", ("num", 2)),)))),
        ("if", ("or", LESS, ("and", LESS, LESS)), (("give", ("mul", 2, X)),), (("set", "x", A), GIVE))))
CLAIM = claim(
    letters=(("a", "number"), ("b", "number"), ("r", "row")), needs=(ALL, ("le", RICH["notion"], A)), gives=(ALL, LESS),
    spends=RICH["with"],
    statements=(("if", ("le", RICH["notion"], RICH["room"]), (("use", "c", (A, RICH["notion"], ("with", R, A, B))),), ()),
                ("hold", ("le", LEFT, A)), ("hold", ALL), ("if", LESS, (), (("hold", YES),))))
NOTION = notion(9, (("a", "number"), ("r", "row"), ("b", "number"), ("n", "number")), ("add", A, ("size", ("with", R, A, B))),
                ("add", itself(B, ("room", N), ("notion", "g", (A,)), LESS_ONE), ("read", R, ("notion", "g", ()))))
ROW_WORK = work(result="row", gives=(("le", ("size", ("row", "given")), A), ("all", NOUGHT, A, ("eq", OWN, ("read", ("row", "given"), OWN)))),
                statements=(("if", YES, (("give", R),), (("give", S),)),))
