import copy
import unittest

from leapwork.judge import is_bundle
from samples import ALLS, ANYTHING, ONE, OWN, PLAINS, nested

X, Y = ("name", 0), ("name", 1)
ROW = ("row", 2)
LESS = ("le", X, Y)


def deep(many):
    """A saying of so many tuples within one another."""
    term = X
    for _ in range(many - 2):
        term = ("add", term, ONE)
    return ("le", term, X)


def wide(many):
    """A saying of so many tuples in all, few within one another."""
    if many == 3:
        return LESS
    if many < 7:
        return ("not", wide(many - 1))
    return ("and", wide(many // 2), wide(many - 1 - many // 2))


def tuples_in(thing):
    return 1 + sum(tuples_in(part) for part in thing if isinstance(part, tuple))


class IsBundle(unittest.TestCase):
    def right(self, *sayings):
        with self.subTest(sayings):
            self.assertIs(is_bundle(list(sayings)), True)

    def wrong(self, thing):
        self.assertIs(is_bundle(thing), False)

    def test_right_ones(self):
        self.right(LESS)
        self.right(("eq", ("num", 0), ("num", 1)))
        self.right(LESS, ("not", LESS), ("all", X, ("size", ROW), ("le", ("read", ROW, OWN), Y)))
        self.right(("le", ("notion", "f", (ROW, X, ("room", Y))), ("notion", "none", ())), LESS, LESS)
        self.right(("or", ("and", LESS, LESS), ("eq", ("div", X, 10 ** 9), ("mod", ("mul", -7, Y), 1))))
        self.right(("eq", ("name", 10 ** 29), ("size", ("row", 7))))

    def test_how_many_sayings(self):
        self.right(*[LESS] * 60)
        self.wrong([LESS] * 61)
        self.wrong([])

    def test_letters(self):
        self.right(*[("le", ("name", n), X) for n in range(24)])
        self.right(*[("le", ("name", n), ("size", ("row", 12 + n))) for n in range(12)])
        self.right(*[("le", ("name", n), ("num", 0)) for n in range(24)] * 2)
        self.wrong([("le", ("name", n), X) for n in range(25)])
        self.wrong([("le", ("name", n), ("size", ("row", 13 + n))) for n in range(13)])

    def test_a_letter_of_two_kinds(self):
        self.wrong([("le", X, ("size", ("row", 0)))])
        self.wrong([LESS, ("le", Y, Y), ("le", ("num", 1), ("read", ("row", 1), X))])
        self.wrong([("all", X, Y, ("eq", ("read", ("row", 1), OWN), X))])

    def test_names_and_kept_letters(self):
        for letter in ("a", "left", "given", "own", "abcdefgh"):
            self.wrong([("le", X, ("name", letter))])
            self.wrong([LESS, ("not", ("le", X, ("name", letter)))])
            self.wrong([("le", X, ("size", ("row", letter)))])
            if letter != "own":
                self.wrong([("all", X, Y, ("le", ("name", letter), OWN))])
                self.wrong([("all", ("name", letter), Y, LESS)])

    def test_own_in_alls_alone(self):
        self.right(("all", X, Y, ("le", OWN, OWN)))
        self.right(("all", X, Y, LESS))
        self.wrong([("all", OWN, Y, LESS)])
        self.wrong([("all", X, ("add", OWN, ONE), LESS)])
        self.wrong([("all", X, Y, ("le", OWN, X)), ("le", OWN, X)])
        self.wrong([("all", X, Y, ("le", X, ("size", ("row", "own"))))])

    def test_how_many_tuples_in_all(self):
        for many in (3, 6, 7, 30, 1997, 2000, 2001):
            self.assertEqual(tuples_in(wide(many)), many)
        self.right(wide(2000))
        self.wrong([wide(2001)])
        self.right(wide(1000), wide(997), LESS)
        self.wrong([wide(1000), wide(998), LESS])
        # A notion's places are a tuple, too.
        places = ("le", ("notion", "f", (X,) * 1996), X)
        self.assertEqual(tuples_in(places), 2000)
        self.right(places)
        self.wrong([("not", places)])

    def test_how_many_within_one_another(self):
        self.right(deep(40))
        self.wrong([deep(41)])
        self.wrong([LESS, deep(41)])
        inner = X
        for _ in range(19):
            inner = ("notion", "f", (inner,))
        self.right(("le", X, inner))
        self.wrong([("not", ("le", X, inner))])

    def test_how_many_figures(self):
        for make in (lambda n: ("le", X, ("num", n)), lambda n: ("le", X, ("mul", n, Y)),
                     lambda n: ("all", X, Y, ("le", OWN, ("num", n)))):
            for n in (10 ** 30 - 1, -10 ** 30 + 1):
                self.right(make(n))
            for n in (10 ** 30, -10 ** 30, 10 ** 5000):
                self.wrong([make(n)])
        self.right(("le", X, ("name", 10 ** 30 - 1)))
        self.wrong([("le", X, ("name", 10 ** 30))])
        self.wrong([("le", X, ("size", ("row", 10 ** 30)))])
        self.wrong([("le", X, ("div", Y, 10 ** 9 + 1))])

    def test_anything(self):
        for thing in ANYTHING:
            self.wrong(thing)
            self.wrong([thing])
            self.wrong([LESS, thing])
            self.wrong((thing,))
            self.wrong([("le", X, thing)])
            self.wrong([("not", thing)])
        for saying in PLAINS + ALLS:
            self.wrong([LESS, saying])
            self.wrong((LESS,))
        for thing in (LESS, (LESS,), {0: LESS}, [[LESS]], [LESS, [LESS]], [list(LESS)], [X], [ROW], [("num", 1)],
                      [("not", ("all", X, Y, LESS))], [("le", X, True)], [("le", X, ("name", True))],
                      [("le", X, ("num", False))], [("le", X, ROW)], [("name", 0)], nested(LESS, 95), [nested(LESS, 95)],
                      [("not", nested(LESS, 95))], [("le", X, ("name", -1))]):
            self.wrong(thing)

    def test_it_is_left_as_it_was(self):
        bundle = [LESS, ("all", X, Y, ("le", OWN, X))]
        before = copy.deepcopy(bundle)
        self.assertTrue(is_bundle(bundle) and is_bundle(bundle))
        self.assertEqual(bundle, before)


if __name__ == "__main__":
    unittest.main()
