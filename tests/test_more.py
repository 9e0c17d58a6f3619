import copy
import unittest

from leapwork.judge import more_at
from samples import ANYTHING, NOUGHT, ONE, OWN, nested

X, Y, Z = ("name", 0), ("name", 1), ("name", 2)
ROW, OTHER = ("row", 3), ("row", 4)
LESS, SAME, BACK = ("le", X, Y), ("eq", X, Y), ("le", Y, X)
PAPER = ("any", "thing")
N, M = ("name", "n"), ("name", "m")
LESS_ONE = ("add", N, ("num", -1))
COUNT = ("notion", "count", 0, (("n", "number"),), ("num", 3), ("add", ("notion", "count", (LESS_ONE,)), N))
PICK = ("notion", "pick", 1, (("m", "number"), ("r", "row"), ("n", "number")), ("read", ("row", "r"), M),
        ("notion", "count", (("add", M, ("mul", 2, N)),)))
WEAK = ("notion", "weak", 0, (("n", "number"),), ("notion", "count", (N,)), N)
NOTIONS = {"count": COUNT, "pick": PICK, "weak": WEAK}
# All letters, each of its kind, so that nodes may name them.
LETTERS = ("eq", ("add", X, ("add", Y, Z)), ("add", ("size", ROW), ("size", OTHER)))


def num(n):
    return ("num", n)


def deep(many):
    """A term of so many tuples within one another."""
    term = X
    for _ in range(many - 1):
        term = ("add", term, ONE)
    return term


def wide(many):
    """A term of so many tuples in all."""
    return ("notion", "f", (X,) * (many - 2))


class MoreAt(unittest.TestCase):
    def told(self, sayings, node, due, notions=NOTIONS):
        sayings = [LETTERS, *sayings]
        before = copy.deepcopy((sayings, notions))
        told = more_at(sayings, notions, node)
        self.assertEqual(told, due)
        if due is not None:
            self.assertIs(type(told), list)
            self.assertEqual([type(child) for child in told], [list] * len(due))
        self.assertEqual((sayings, notions), before)

    def none(self, sayings, *nodes):
        for node in nodes:
            self.told(sayings, node, None)

    def test_lines(self):
        apart = [("le", ("add", X, ONE), Y), ("le", Y, X)]
        self.told(apart, ("lines", ((((1, 1), (2, 1)), 1),)), [])
        self.told([("le", ONE, NOUGHT)], ("lines", ((((1, 1),), 1),)), [])
        self.told([("eq", num(3), NOUGHT)], ("lines", ((((1, 1),), 1),)), [])
        self.told([("eq", num(3), NOUGHT)], ("lines", ((((1, -1),), 1),)), None)
        self.told([("eq", NOUGHT, num(3))], ("lines", ((((1, -1),), 1),)), [])

    def test_lines_rows_lean_on_rows_ahead(self):
        # 2X at most 1, X from 1 on: divided, X at most 0.
        sayings = [("le", ("mul", 2, X), ONE), ("le", ONE, X)]
        self.told(sayings, ("lines", ((((1, 1),), 2), (((3, 1), (2, 1)), 1))), [])
        self.told(sayings, ("lines", ((((1, 1),), 1), (((3, 1), (2, 1)), 1))), None)
        self.told(sayings, ("lines", ((((1, 1), (2, 2)), 1),)), [])
        self.told(sayings, ("lines", ((((1, 1),), 2), ((), 1), (((3, 1), (2, 1), (4, 5)), 1))), [])
        self.told(sayings, ("lines", ((((4, 1),), 1), (((1, 1), (2, 2)), 1))), None)
        self.told(sayings, ("lines", ((((3, 1),), 1), (((1, 1), (2, 2)), 1))), None)

    def test_lines_of_no_more_than_lines(self):
        never = ("le", ONE, NOUGHT)
        sayings = [("not", ("eq", X, Y)), ("and", never, never), ("all", X, Y, never), ("not", ("not", never)),
                   ("or", never, never), never, ("not", ("le", NOUGHT, ONE))]
        for place in range(-1, 10):
            self.told(sayings, ("lines", ((((place, 1),), 1),)), [] if place in (6, 7) else None)

    def test_lines_that_are_not_right(self):
        sayings = [("le", ONE, NOUGHT), ("eq", X, num(7)), ("le", X, Y)]
        good = (((1, 1),), 1)
        self.told(sayings, ("lines", (good,)), [])
        self.told(sayings, ("lines", (good, good)), [])
        self.none(sayings, ("lines", ()), ("lines", [good]), ("lines", good), ("lines", (list(good),)), ("lines", None),
                  ("lines", ((((1, 1),),),)), ("lines", ((((1, 1),), 1, 1),)), ("lines", (([(1, 1)], 1),)),
                  ("lines", ((([1, 1],), 1),)), ("lines", ((((1, -1),), 1),)), ("lines", ((((1, 1),), 0),)),
                  ("lines", ((((1, 1),), -1),)), ("lines", ((((1, 1),), True),)), ("lines", ((((1, 1),), None),)),
                  ("lines", ((((3, 1),), 1),)), ("lines", (good, (((3, 1),), 1))), ("lines", ((((3, 1),), 2), good)),
                  ("lines", ((((True, 1),), 1),)), ("lines", ((((1, True),), 1),)), ("lines", (((1, 1), 1),)),
                  ("lines", (((), 1),)), ("lines", ((((1, 0),), 1),)), ("lines", (good,), PAPER), ("lines",))

    def test_lines_with_numbers_of_any_length(self):
        self.told([("le", ONE, NOUGHT)], ("lines", ((((1, 10 ** 400),), 10 ** 200),)), [])

    def test_parts(self):
        for saying, more in ((("and", LESS, SAME), [LESS, SAME]), (("not", ("or", LESS, SAME)), [("not", LESS), ("not", SAME)]),
                             (("not", ("not", LESS)), [LESS]), (("and", ("and", LESS, SAME), BACK), [("and", LESS, SAME), BACK]),
                             (("not", ("not", ("not", LESS))), [("not", LESS)])):
            self.told([saying], ("parts", 1, PAPER), [more])
            self.told([BACK, saying, BACK], ("parts", 2, None), [more])
        self.none([LESS, SAME, ("not", LESS), ("or", LESS, LESS), ("not", ("and", LESS, LESS)), ("not", ("eq", X, Y)),
                   ("all", X, Y, ("and", LESS, LESS))], *[("parts", place, PAPER) for place in range(8)])

    def test_cases(self):
        for saying, more in ((("or", LESS, SAME), [[LESS], [SAME]]),
                             (("not", ("and", LESS, SAME)), [[("not", LESS)], [("not", SAME)]]),
                             (("not", ("eq", X, ("size", ROW))),
                              [[("le", ("add", X, ONE), ("size", ROW))], [("le", ("add", ("size", ROW), ONE), X)]])):
            self.told([saying], ("cases", 1, PAPER, PAPER), more)
            self.told([BACK, saying, BACK], ("cases", 2, None, 7), more)
        self.none([LESS, SAME, ("not", LESS), ("and", LESS, LESS), ("not", ("or", LESS, LESS)), ("not", ("not", SAME)),
                   ("all", X, Y, ("or", LESS, LESS))], *[("cases", place, PAPER, PAPER) for place in range(8)])

    def test_numbers_of_sayings_that_are_none(self):
        sayings = [("and", LESS, LESS), ("or", LESS, LESS), ("all", X, Y, LESS)]
        for place in (-1, -3, 4, 5, 10 ** 30, True, False, None, "1", (1,), [1], 1.0):
            self.none(sayings, ("parts", place, PAPER), ("cases", place, PAPER, PAPER),
                      ("take", place, X, PAPER, PAPER, PAPER))

    def test_take(self):
        inner = ("and", ("le", OWN, ("read", ROW, OWN)), ("not", ("eq", X, OWN)))
        saying = ("all", ("add", X, ONE), ("size", ROW), inner)
        place = ("add", Y, num(2))
        put = ("and", ("le", place, ("read", ROW, place)), ("not", ("eq", X, place)))
        self.told([saying], ("take", 1, place, PAPER, PAPER, PAPER),
                  [[("le", ("add", place, ONE), ("add", X, ONE))], [("le", ("size", ROW), place)], [put]])
        self.told([("all", X, Y, LESS)], ("take", 1, num(5), 1, 2, 3),
                  [[("le", ("add", num(5), ONE), X)], [("le", Y, num(5))], [LESS]])
        self.told([saying], ("take", 1, ("notion", "none", ()), 1, 2, 3),
                  [[("le", ("add", ("notion", "none", ()), ONE), ("add", X, ONE))],
                   [("le", ("size", ROW), ("notion", "none", ()))],
                   [("and", ("le", ("notion", "none", ()), ("read", ROW, ("notion", "none", ()))),
                     ("not", ("eq", X, ("notion", "none", ()))))]])
        self.none([saying, SAME, LESS], ("take", 1, ROW, 1, 2, 3), ("take", 1, OWN, 1, 2, 3), ("take", 1, LESS, 1, 2, 3),
                  ("take", 1, None, 1, 2, 3), ("take", 1, 5, 1, 2, 3), ("take", 2, X, 1, 2, 3), ("take", 3, X, 1, 2, 3),
                  ("take", 0, X, 1, 2, 3), ("take", 1, X, 1, 2), ("take", 1, X, 1, 2, 3, 4))

    def test_put(self):
        for saying in (LESS, SAME, ("not", LESS), ("or", LESS, ("and", SAME, BACK)), ("eq", ("read", OTHER, Z), num(-4))):
            self.told([LESS], ("put", saying, PAPER, PAPER), [[saying], [("not", saying)]])
        self.none([("all", X, Y, LESS)], ("put", ("all", X, Y, LESS), 1, 2), ("put", X, 1, 2), ("put", ROW, 1, 2),
                  ("put", None, 1, 2), ("put", ["le", X, Y], 1, 2), ("put", ("le", X), 1, 2), ("put", 0, 1, 2),
                  ("put", ("le", X, OWN), 1, 2), ("put", LESS, 1), ("put", LESS, 1, 2, 3))

    def test_alike_of_reads(self):
        for row in (ROW, ("with", ROW, X, Y), ("room", X)):
            one, other = ("read", row, X), ("read", row, ("add", Y, ONE))
            self.told([], ("alike", one, other, (1, 2)),
                      [[("not", ("eq", X, ("add", Y, ONE)))], [("eq", one, other)]])
            self.told([], ("alike", one, one, (1, 2)), [[("not", ("eq", X, X))], [("eq", one, one)]])
        self.none([], ("alike", ("read", ROW, X), ("read", OTHER, X), (1, 2)),
                  ("alike", ("read", ("with", ROW, X, ("add", Y, Z)), X), ("read", ("with", ROW, X, ("add", Z, Y)), X), (1, 2)),
                  ("alike", ("read", ROW, X), ("read", ROW, Y), (1,)), ("alike", ("read", ROW, X), ("read", ROW, Y), ()),
                  ("alike", ("read", ROW, X), ("read", ROW, Y), (1, 2, 3)),
                  ("alike", ("read", ROW, X), ("read", ROW, Y), [1, 2]), ("alike", ("read", ROW, X), ("read", ROW, Y), None),
                  ("alike", ("read", ROW, X), ("read", ROW, Y), 1, 2), ("alike", ("read", ROW, X), ("read", ROW, Y)),
                  ("alike", X, X, (1, 2)), ("alike", ("size", ROW), ("size", ROW), (1,)), ("alike", ROW, ROW, (1,)),
                  ("alike", ("div", X, 2), ("div", X, 2), (1, 2)), ("alike", ("read", ROW, X), X, (1, 2)),
                  ("alike", None, None, (1, 2)), ("alike", ("read", ROW, X), None, (1, 2)))

    def test_alike_of_notions(self):
        one = ("notion", "pick", (X, ("with", ROW, X, Y), Y))
        other = ("notion", "pick", (Y, ("with", ROW, X, Y), num(3)))
        self.told([], ("alike", one, other, (1, 2, 3)),
                  [[("not", ("eq", X, Y))], [("not", ("eq", Y, num(3)))], [("eq", one, other)]])
        # Neither that it stands firm nor that it is there is asked.
        for name in ("weak", "none", "count"):
            self.told([], ("alike", ("notion", name, (X, X)), ("notion", name, (X, Y)), (1, 2, 3)),
                      [[("not", ("eq", X, X))], [("not", ("eq", X, Y))],
                       [("eq", ("notion", name, (X, X)), ("notion", name, (X, Y)))]])
        self.told([], ("alike", ("notion", "f", ()), ("notion", "f", ()), (1,)),
                  [[("eq", ("notion", "f", ()), ("notion", "f", ()))]])
        self.told([], ("alike", ("notion", "f", (ROW,)), ("notion", "f", (ROW,)), (1,)),
                  [[("eq", ("notion", "f", (ROW,)), ("notion", "f", (ROW,)))]])
        self.none([], ("alike", ("notion", "f", (X,)), ("notion", "g", (X,)), (1, 2)),
                  ("alike", ("notion", "f", (X,)), ("notion", "f", (X, X)), (1, 2)),
                  ("alike", ("notion", "f", (X, X)), ("notion", "f", (X,)), (1, 2)),
                  ("alike", ("notion", "f", (ROW, X)), ("notion", "f", (OTHER, X)), (1, 2)),
                  ("alike", ("notion", "f", (X, X)), ("notion", "f", (ROW, X)), (1, 2)),
                  ("alike", ("notion", "f", (ROW, X)), ("notion", "f", (X, X)), (1, 2)),
                  ("alike", ("notion", "f", (X, ROW)), ("notion", "f", (X, ROW)), (1,)))

    def test_write(self):
        term = ("read", ("with", ("with", ROW, X, Y), Z, num(4)), ("add", X, Y))
        self.told([], ("write", term, 1, 2),
                  [[("eq", Z, ("add", X, Y)), ("eq", term, num(4))],
                   [("not", ("eq", Z, ("add", X, Y))), ("eq", term, ("read", ("with", ROW, X, Y), ("add", X, Y)))]])
        self.none([], ("write", ("read", ROW, X), 1, 2), ("write", ("read", ("room", X), X), 1, 2), ("write", X, 1, 2),
                  ("write", ("with", ROW, X, Y), 1, 2), ("write", ("size", ("with", ROW, X, Y)), 1, 2),
                  ("write", None, 1, 2), ("write", term, 1), ("write", term, 1, 2, 3))

    def test_bare(self):
        term = ("read", ("room", Y), ("add", X, ONE))
        self.told([], ("bare", term, 1), [[("eq", term, NOUGHT)]])
        self.none([], ("bare", ("read", ROW, X), 1), ("bare", ("read", ("with", ("room", X), X, Y), X), 1), ("bare", X, 1),
                  ("bare", ("room", X), 1), ("bare", ("size", ("room", X)), 1), ("bare", None, 1), ("bare", term),
                  ("bare", term, 1, 2))

    def test_size(self):
        self.told([], ("size", ROW, 1), [[("le", NOUGHT, ("size", ROW))]])
        written = ("with", ("room", X), Y, Z)
        self.told([], ("size", written, 1),
                  [[("le", NOUGHT, ("size", written)), ("eq", ("size", written), ("size", ("room", X)))]])
        room, t = ("room", ("add", X, Y)), ("add", X, Y)
        self.told([], ("size", room, 1),
                  [[("le", NOUGHT, ("size", room)),
                    ("or", ("and", ("le", NOUGHT, t), ("eq", ("size", room), t)),
                     ("and", ("le", ("add", t, ONE), NOUGHT), ("eq", ("size", room), NOUGHT)))]])
        self.none([], ("size", X, 1), ("size", ("size", ROW), 1), ("size", 3, 1), ("size", ROW), ("size", ROW, 1, 2),
                  ("size", ("name", 3), 1), ("size", None, 1))

    def test_floor(self):
        t = ("add", X, Y)
        due = [[("eq", t, ("add", ("mul", 7, ("div", t, 7)), ("mod", t, 7))), ("le", NOUGHT, ("mod", t, 7)),
                ("le", ("mod", t, 7), num(6))]]
        self.told([], ("floor", ("div", t, 7), 1), due)
        self.told([], ("floor", ("mod", t, 7), 1), due)
        self.told([], ("floor", ("mod", num(-1), 1), 1),
                  [[("eq", num(-1), ("add", ("mul", 1, ("div", num(-1), 1)), ("mod", num(-1), 1))),
                    ("le", NOUGHT, ("mod", num(-1), 1)), ("le", ("mod", num(-1), 1), NOUGHT)]])
        self.none([], ("floor", t, 1), ("floor", X, 1), ("floor", ("div", X, 0), 1), ("floor", ("mul", 7, X), 1),
                  ("floor", ("div", X, 10 ** 9 + 1), 1), ("floor", ("div", ROW, 2), 1), ("floor", None, 1),
                  ("floor", ("div", X, 2)), ("floor", ("div", X, 2), 1, 2))

    def test_unfold(self):
        term = ("notion", "count", (("add", X, Y),))
        self.told([], ("unfold", term, 1, 2),
                  [[("le", ("add", X, Y), NOUGHT), ("eq", term, num(3))],
                   [("le", ONE, ("add", X, Y)),
                    ("eq", term, ("add", ("notion", "count", (("add", ("add", X, Y), num(-1)),)), ("add", X, Y)))]])
        row = ("with", ROW, X, Y)
        term = ("notion", "pick", (Y, row, Z))
        self.told([], ("unfold", term, 1, 2),
                  [[("le", Z, NOUGHT), ("eq", term, ("read", row, Y))],
                   [("le", ONE, Z), ("eq", term, ("notion", "count", (("add", Y, ("mul", 2, Z)),)))]])
        self.none([], ("unfold", ("notion", "weak", (X,)), 1, 2), ("unfold", ("notion", "none", (X,)), 1, 2),
                  ("unfold", ("notion", "count", ()), 1, 2), ("unfold", ("notion", "count", (X, X)), 1, 2),
                  ("unfold", ("notion", "count", (ROW,)), 1, 2), ("unfold", ("notion", "pick", (Y, X, Z)), 1, 2),
                  ("unfold", ("notion", "pick", (Y, ROW, ROW)), 1, 2), ("unfold", X, 1, 2), ("unfold", COUNT, 1, 2),
                  ("unfold", None, 1, 2), ("unfold", term, 1), ("unfold", term, 1, 2, 3))
        self.told([], ("unfold", ("notion", "count", (X,)), 1, 2), None, {})
        self.told([], ("unfold", term, 1, 2), None, {"pick": PICK})

    def test_letters_of_the_list_alone_by_their_kinds(self):
        sayings = [("all", X, Y, LESS)]
        for bad in (("name", 7), ("name", 3), ("name", "a"), ("name", "left"), ("name", "own"), ("name", "given"),
                    ("size", ("row", 0)), ("size", ("row", 8)), ("size", ("row", "r"))):
            row = ("with", ROW, bad, ONE)
            self.none(sayings, ("take", 1, bad, 1, 2, 3), ("take", 1, ("add", X, bad), 1, 2, 3), ("put", ("le", X, bad), 1, 2),
                      ("alike", ("read", ROW, bad), ("read", ROW, X), (1, 2)),
                      ("alike", ("read", ROW, X), ("read", ROW, bad), (1, 2)),
                      ("alike", ("read", row, X), ("read", row, X), (1, 2)),
                      ("write", ("read", row, X), 1, 2), ("write", ("read", ("with", ROW, X, Y), bad), 1, 2),
                      ("bare", ("read", ("room", bad), X), 1), ("bare", ("read", ("room", X), bad), 1),
                      ("size", row, 1), ("size", ("room", bad), 1), ("floor", ("div", bad, 2), 1),
                      ("unfold", ("notion", "count", (bad,)), 1, 2))
        for row in (("row", 0), ("row", 9), ("row", "r"), ("row", "given")):
            self.none(sayings, ("size", row, 1), ("alike", ("read", row, X), ("read", row, X), (1, 2)))

    def test_what_stands_more_is_not_too_great(self):
        saying = ("le", X, wide(3997))
        self.told([], ("put", saying, 1, 2), [[saying], [("not", saying)]])
        self.none([], ("put", ("le", X, wide(3998)), 1, 2), ("put", ("le", X, wide(3999)), 1, 2))
        self.assertIsNotNone(more_at([LETTERS], {}, ("put", ("le", X, deep(58)), 1, 2)))
        self.none([], ("put", ("le", X, deep(59)), 1, 2), ("put", ("le", X, deep(60)), 1, 2))
        # The list may have sayings that are greater.
        great = ("and", ("le", X, wide(3998)), ("le", X, deep(70)))
        self.told([("and", LESS, SAME), great], ("parts", 1, 1), [[LESS, SAME]])
        self.none([("and", LESS, SAME), great], ("parts", 2, 1))

    def test_each_saying_that_stands_more_counts(self):
        by = ("all", X, ("add", deep(57), ONE), LESS)
        self.assertIsNotNone(more_at([LETTERS, by], {}, ("take", 1, X, 1, 2, 3)))
        self.none([("all", X, deep(60), LESS)], ("take", 1, X, 1, 2, 3))
        self.none([("all", deep(60), X, LESS)], ("take", 1, X, 1, 2, 3))
        self.none([("all", X, X, ("le", X, deep(60)))], ("take", 1, X, 1, 2, 3))
        self.none([("all", X, X, ("le", OWN, deep(30)))], ("take", 1, deep(60), 1, 2, 3))
        own = ("all", X, X, ("le", OWN, ("add", OWN, OWN)))
        self.assertIsNotNone(more_at([LETTERS, own], {}, ("take", 1, wide(1332), 1, 2, 3)))
        self.none([own], ("take", 1, wide(1333), 1, 2, 3))
        notion = ("notion", "twice", 0, (("n", "number"),), NOUGHT, ("add", N, ("add", N, N)))
        for many, right in ((997, True), (998, True), (999, False), (1000, False)):
            told = more_at([LETTERS], {"twice": notion}, ("unfold", ("notion", "twice", (wide(many),)), 1, 2))
            self.assertIs(told is not None, right)

    def test_of_anything(self):
        sayings = [("and", LESS, SAME), ("all", X, Y, LESS)]
        for thing in ANYTHING:
            self.none(sayings, thing, (thing,), (thing, 1, 2), ("lines", thing), ("lines", (thing,)),
                      ("lines", ((thing, 1),)), ("lines", (((thing,), 1),)), ("put", thing, 1, 2),
                      ("alike", thing, thing, thing), ("size", thing, 1), ("floor", thing, 1), ("unfold", thing, 1, 2),
                      ("write", thing, 1, 2), ("bare", thing, 1))
            if type(thing) is not int:
                self.none(sayings, ("parts", thing, 1), ("cases", thing, 1, 2), ("take", thing, X, 1, 2, 3))
            if not isinstance(thing, tuple) or len(thing) != 2:
                self.none(sayings, ("alike", ("read", ROW, X), ("read", ROW, X), thing))
        self.none(sayings, ["parts", 1, PAPER], ("Parts", 1, PAPER), ("part", 1, PAPER), ("parts",), ("parts", 1),
                  ("parts", 1, PAPER, PAPER), ("cases", 1, PAPER), nested(("parts", 1, PAPER), 90))


if __name__ == "__main__":
    unittest.main()
