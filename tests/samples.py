"""What several tests share: good things of each kind, and things of any other kinds."""

A, B, N = ("name", "a"), ("name", "b"), ("name", "n")
R, S = ("row", "r"), ("row", "s")
ONE, NOUGHT = ("num", 1), ("num", 0)
OWN = ("name", "own")
LESS_ONE = ("add", N, ("num", -1))

TERMS = [
    ("num", 0), ("num", -7), ("num", 10 ** 60),
    ("name", "a"), ("name", "abcdefgh"), ("name", "left"), ("name", "own"), ("name", "given"),
    ("name", 0), ("name", 1), ("name", 10 ** 30),
    ("add", A, ONE), ("mul", -3, A), ("mul", 0, A), ("mul", 10 ** 40, ("mul", 2, B)),
    ("read", R, A), ("read", ("with", ("room", A), B, ONE), ("read", S, B)),
    ("size", R), ("size", ("room", ("size", S))),
    ("div", A, 1), ("div", A, 7), ("div", A, 10 ** 9), ("mod", A, 1), ("mod", A, 10 ** 9),
    ("notion", "f", ()), ("notion", "f", (A,)), ("notion", "longname", (R, A, ("room", A), ("size", S))),
    ("notion", "f", (("notion", "g", (("notion", "h", ()), ("with", R, A, B))), B)),
    ("add", ("add", ("mul", 2, ("div", ("mod", A, 3), 4)), ("size", R)), ("read", R, ("num", 4))),
]
ROWS = [
    ("row", "r"), ("row", "abcdefgh"), ("row", "given"), ("row", 0), ("row", 25),
    ("with", R, A, B), ("with", ("with", ("room", ONE), A, B), ("read", R, A), ("size", S)),
    ("room", A), ("room", ("notion", "f", (R,))), ("room", ("num", -5)),
]
PLAINS = [
    ("le", A, B), ("le", OWN, ("size", R)), ("eq", A, ("num", 2)), ("eq", ("name", 0), ("name", "left")),
    ("not", ("le", A, B)), ("and", ("le", A, B), ("eq", A, B)), ("or", ("eq", A, A), ("not", ("eq", A, B))),
    ("not", ("not", ("and", ("or", ("le", A, B), ("le", B, A)), ("not", ("eq", ("read", R, A), B))))),
]
ALLS = [
    ("all", NOUGHT, A, ("le", A, B)),
    ("all", NOUGHT, ("size", R), ("le", NOUGHT, ("read", R, OWN))),
    ("all", ("notion", "f", (R, ("name", "left"))), ("name", "given"), ("or", ("eq", OWN, A), ("not", ("le", OWN, B)))),
]


def nested(thing, deep):
    """The thing within so many tuples of one part."""
    for _ in range(deep):
        thing = (thing,)
    return thing


ANYTHING = [
    None, True, False, 0, 1, -5, 10 ** 5000, "", "a", "num", "all", "left", (), [], ((),), [[]], ("",), (None,), (0,),
    ("num",), ("name",), ("row",), ("all",), ("notion",), ["num", 1], ["le", A, B], ("num", 1, 2), (1, 2), ((), ()),
    (["num"], 1), (("num",), 1), (("num", 1),), ("no", ["le"]), ("Num", 1), ("num ", 1), (True, 1), (None, A, B),
    ("all", A), ("all", A, B), ("all", A, B, ("le", A, B), ("le", A, B)), ("all", A, B, A), ("all", A, B, R),
    ("all", A, B, ("all", A, B, ("le", A, B))), ["all", A, B, ("le", A, B)], tuple(range(9000)), list(range(9000)),
    nested(1, 99), ("not", nested((), 98)), ("with", [R], A, B), ("notion", "f", [A]), ("notion", "f", A),
    1.5, {"num": 1}, {1, 2}, b"num", object(),
]
