import copy
import random
import unittest

from leapwork.terms import is_plain, is_row, is_saying, is_term, letters_of, notions_in, put_in
from samples import A, ALLS, B, NOUGHT, ONE, OWN, PLAINS, R, ROWS, S, TERMS

SAMPLES = TERMS + ROWS + PLAINS + ALLS


def letters_by_hand(thing, within=False):
    """The letters, gone into one within another, with those that stand twice."""
    if thing[0] == "name":
        return [] if within and thing[1] == "own" else [(thing[1], "number")]
    if thing[0] == "row":
        return [(thing[1], "row")]
    parts = thing[2] if thing[0] == "notion" else [part for part in thing[1:] if isinstance(part, tuple)]
    return [letter for part in parts for letter in letters_by_hand(part, within or thing[0] == "all")]


def rebuilt(thing, by, within=False):
    """The thing with letters put in, part by part, as point 6 tells it."""
    if isinstance(thing, tuple) and thing and thing[0] in ("name", "row"):
        return thing if within and thing[1] == "own" else by.get(thing[1], thing)
    if isinstance(thing, tuple) and thing:
        return tuple(rebuilt(part, by, within or thing[0] == "all") for part in thing)
    return thing


class LettersOf(unittest.TestCase):
    def test_none(self):
        for thing in (("num", 3), ("room", NOUGHT), ("notion", "f", ()), ("le", NOUGHT, ONE),
                      ("all", NOUGHT, ONE, ("le", OWN, NOUGHT))):
            self.assertEqual(letters_of(thing), [])

    def test_each_form_from_left_to_right(self):
        a, b, r, s = ("a", "number"), ("b", "number"), ("r", "row"), ("s", "row")
        for thing, due in ((A, [a]), (R, [r]), (("add", B, A), [b, a]), (("mul", 2, A), [a]), (("read", R, A), [r, a]),
                           (("read", ("with", S, B, A), ("size", R)), [s, b, a, r]), (("size", R), [r]),
                           (("div", A, 2), [a]), (("mod", B, 2), [b]), (("notion", "f", (B, S, A, R)), [b, s, a, r]),
                           (("with", R, B, A), [r, b, a]), (("room", B), [b]), (("le", B, A), [b, a]),
                           (("eq", B, A), [b, a]), (("not", ("le", B, A)), [b, a]),
                           (("and", ("le", B, ("size", S)), ("eq", A, B)), [b, s, a]),
                           (("or", ("le", B, ("size", S)), ("eq", A, B)), [b, s, a]),
                           (("all", B, ("size", S), ("le", A, ("read", R, OWN))), [b, s, a, r])):
            with self.subTest(thing):
                self.assertEqual(letters_of(thing), due)

    def test_each_once_as_it_first_stands(self):
        thing = ("add", ("add", B, ("add", A, B)), ("add", ("read", R, A), ("add", ("name", 3), ("read", R, B))))
        self.assertEqual(letters_of(thing), [("b", "number"), ("a", "number"), ("r", "row"), (3, "number")])

    def test_kept_letters_and_numbers(self):
        thing = ("le", ("name", "left"), ("add", OWN, ("add", ("name", "given"), ("name", 0))))
        self.assertEqual(letters_of(thing),
                         [("left", "number"), ("own", "number"), ("given", "number"), (0, "number")])
        self.assertEqual(letters_of(("size", ("with", ("row", "given"), ("name", 1), ("size", ("row", 0))))),
                         [("given", "row"), (1, "number"), (0, "row")])

    def test_names_of_notions_are_no_letters(self):
        self.assertEqual(letters_of(("notion", "a", (("notion", "b", (B,)),))), [("b", "number")])

    def test_own_of_an_all_is_not_told(self):
        thing = ("all", A, ("name", "left"), ("or", ("le", OWN, B), ("eq", ("read", R, OWN), OWN)))
        self.assertEqual(letters_of(thing), [("a", "number"), ("left", "number"), ("b", "number"), ("r", "row")])
        self.assertEqual(letters_of(thing[3]), [("own", "number"), ("b", "number"), ("r", "row")])

    def test_all_samples(self):
        for thing in SAMPLES:
            self.assertEqual(letters_of(thing), list(dict.fromkeys(letters_by_hand(thing))), thing)

    def test_each_list_is_the_askers_own(self):
        first = letters_of(("add", A, B))
        first.clear()
        self.assertEqual(letters_of(("add", A, B)), [("a", "number"), ("b", "number")])


class NotionsIn(unittest.TestCase):
    def test_none(self):
        for thing in (A, R, ("num", 1), ("size", ("with", R, A, B)), ("not", ("le", A, B))):
            self.assertEqual(notions_in(thing), [])

    def test_outer_ones_ahead_from_left_to_right(self):
        inner = ("notion", "g", (("notion", "h", ()), ("room", ("notion", "i", (R,)))))
        self.assertEqual(notions_in(("notion", "f", (inner, ("notion", "e", (A,))))), ["f", "g", "h", "i", "e"])
        self.assertEqual(notions_in(("add", inner, ("notion", "a", ()))), ["g", "h", "i", "a"])

    def test_within_each_form(self):
        f, g, h = (("notion", name, (A,)) for name in "fgh")
        for thing, due in ((("add", g, f), "gf"), (("mul", 2, f), "f"), (("read", ("with", R, h, g), f), "hgf"),
                           (("size", ("room", f)), "f"), (("div", f, 2), "f"), (("mod", f, 2), "f"),
                           (("with", ("room", g), h, f), "ghf"), (("room", f), "f"), (("le", g, f), "gf"),
                           (("eq", g, f), "gf"), (("not", ("le", g, f)), "gf"),
                           (("and", ("le", g, A), ("eq", f, g)), "gf"), (("or", ("le", g, A), ("eq", f, g)), "gf"),
                           (("all", h, g, ("le", f, OWN)), "hgf")):
            with self.subTest(thing):
                self.assertEqual(notions_in(thing), list(due))

    def test_each_once_as_it_first_stands(self):
        thing = ("add", ("notion", "g", (("notion", "f", ()),)), ("add", ("notion", "f", ()), ("notion", "g", ())))
        self.assertEqual(notions_in(thing), ["g", "f"])
        self.assertEqual(notions_in(("notion", "f", (("notion", "f", (A,)),))), ["f"])

    def test_each_list_is_the_askers_own(self):
        notions_in(("notion", "f", ())).append("g")
        self.assertEqual(notions_in(("notion", "f", ())), ["f"])


class PutIn(unittest.TestCase):
    def test_each_form(self):
        by = {"a": ("num", 5), "b": ("size", S), "r": ("room", A)}
        five, size, room = by["a"], by["b"], by["r"]
        for thing, due in ((A, five), (R, room), (("num", 1), ("num", 1)), (("name", "c"), ("name", "c")), (S, S),
                           (("add", B, A), ("add", size, five)), (("mul", 2, A), ("mul", 2, five)),
                           (("read", R, A), ("read", room, five)), (("size", R), ("size", room)),
                           (("div", A, 2), ("div", five, 2)), (("mod", B, 9), ("mod", size, 9)),
                           (("notion", "a", (B, S, A, R)), ("notion", "a", (size, S, five, room))),
                           (("notion", "a", ()), ("notion", "a", ())), (("with", R, B, A), ("with", room, size, five)),
                           (("room", B), ("room", size)), (("le", B, A), ("le", size, five)),
                           (("eq", A, ONE), ("eq", five, ONE)), (("not", ("le", B, A)), ("not", ("le", size, five))),
                           (("and", ("le", A, A), ("eq", B, B)), ("and", ("le", five, five), ("eq", size, size))),
                           (("or", ("le", A, A), ("eq", B, B)), ("or", ("le", five, five), ("eq", size, size))),
                           (("all", A, B, ("le", ("read", R, OWN), A)),
                            ("all", five, size, ("le", ("read", room, OWN), five)))):
            with self.subTest(thing):
                self.assertEqual(put_in(thing, by), due)

    def test_all_at_once(self):
        thing = ("read", ("with", R, A, B), ("add", A, B))
        by = {"a": ("add", B, ONE), "b": A, "r": ("with", S, A, B), "s": R}
        self.assertEqual(put_in(thing, by),
                         ("read", ("with", ("with", S, A, B), ("add", B, ONE), A), ("add", ("add", B, ONE), A)))
        self.assertEqual(put_in(A, {"a": ("add", A, A)}), ("add", A, A))
        self.assertEqual(put_in(("add", A, B), {"a": B, "b": A}), ("add", B, A))

    def test_rows_and_numbers_for_letters(self):
        self.assertEqual(put_in(("read", ("row", 0), ("name", 1)), {1: ("num", 7), 0: ("row", 2), 2: ("row", 3)}),
                         ("read", ("row", 2), ("num", 7)))
        self.assertEqual(put_in(("add", ("name", "given"), ("name", "left")), {"given": ("name", 4), "left": ONE}),
                         ("add", ("name", 4), ONE))
        self.assertEqual(put_in(("size", ("row", "given")), {"given": ("room", A)}), ("size", ("room", A)))

    def test_own_within_an_all_is_left_alone(self):
        saying = ("or", ("le", OWN, A), ("eq", ("read", R, OWN), B))
        by = {"own": ("num", 3), "a": ONE, "b": ("name", "own")}
        self.assertEqual(put_in(("all", A, NOUGHT, saying), by),
                         ("all", ONE, NOUGHT, ("or", ("le", OWN, ONE), ("eq", ("read", R, OWN), OWN))))
        self.assertEqual(by, {"own": ("num", 3), "a": ONE, "b": ("name", "own")})

    def test_own_elsewhere_is_put_in(self):
        saying = ("or", ("le", OWN, A), ("eq", ("read", R, OWN), B))
        three = ("num", 3)
        self.assertEqual(put_in(saying, {"own": three}), ("or", ("le", three, A), ("eq", ("read", R, three), B)))
        self.assertEqual(put_in(OWN, {"own": A}), A)

    def test_numbers_and_names_are_no_letters(self):
        thing = ("add", ("num", 2), ("mul", 2, ("mod", ("notion", "a", ()), 2)))
        self.assertEqual(put_in(thing, {2: A, "a": B, "num": A, "mul": A}), thing)

    def test_letters_that_do_not_stand_there(self):
        for thing in SAMPLES:
            self.assertEqual(put_in(thing, {"x": A, "y": R, 77: B, ("loop", 1, "a"): A}), thing)

    def test_empty_dict(self):
        for thing in SAMPLES:
            self.assertEqual(put_in(thing, {}), thing)

    def test_what_is_told_is_of_the_things_kind(self):
        by = {"a": ("size", R), "r": ("with", R, A, B), 0: ONE}
        for things, check in ((TERMS, is_term), (ROWS, is_row), (PLAINS, is_plain), (ALLS, is_saying)):
            for thing in things:
                if thing != ("row", 0):
                    self.assertTrue(check(put_in(thing, by)), thing)

    def test_thing_and_dict_stay(self):
        by = {"a": ("add", A, B), "b": A, "r": ("with", R, A, B), "own": ONE, "left": A}
        before = copy.deepcopy((SAMPLES, by))
        for thing in SAMPLES:
            put_in(thing, by)
        self.assertEqual((SAMPLES, by), before)
        self.assertEqual(list(by), list(before[1]))

    def test_as_rebuilt(self):
        chance = random.Random(6)
        terms = TERMS + [("name", letter) for letter in ("a", "b", "left", "own", "given", 0, 1)]
        rows = ROWS + [R, S, ("row", 0)]
        for _ in range(3000):
            by = {letter: chance.choice(terms) for letter in chance.sample(["a", "b", "own", "left", 1], 3)}
            by.update({letter: chance.choice(rows) for letter in chance.sample(["r", "s", "abcdefgh"], 2)})
            thing = chance.choice(SAMPLES)
            self.assertEqual(put_in(thing, by), rebuilt(thing, by), (thing, by))

    def test_very_deep(self):
        thing, due = ("add", A, R), ("add", B, R)
        for _ in range(3000):
            thing, due = ("mul", 2, thing), ("mul", 2, due)
        told, many = put_in(thing, {"a": B}), 0
        while told[0] == "mul":
            told, many = told[2], many + 1
        self.assertEqual((told, many), (("add", B, R), 3000))
        self.assertEqual(letters_of(thing), [("a", "number"), ("r", "row")])


if __name__ == "__main__":
    unittest.main()
