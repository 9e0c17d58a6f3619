import copy
import itertools
import unittest

from leapwork.notions import firm
from samples import A, LESS_ONE, N, NOUGHT, ONE, R

NUMBER, ROW = (("n", "number"),), (("r", "row"), ("n", "number"))


def notion(name, floor, *, zero=NOUGHT, more=ONE, letters=NUMBER):
    return ("notion", name, floor, letters, zero, more)


def call(name, *places):
    return ("notion", name, places)


def told(*notions):
    """What is told of these, whatever their order in the dict is."""
    answers = [firm({each[1]: each for each in row}) for row in itertools.permutations(notions)]
    for answer in answers:
        if answer != answers[0]:
            raise AssertionError(f"the order counts: {answers}")
    return answers[0]


class Lower(unittest.TestCase):
    def test_none(self):
        self.assertEqual(firm({}), [])

    def test_alone(self):
        for floor in (0, 5, 9):
            self.assertEqual(told(notion("f", floor)), ["f"])
            self.assertEqual(told(notion("f", floor, zero=N, more=("add", N, N))), ["f"])

    def test_names_a_lower_one(self):
        for zero, more in ((call("f", N), ONE), (ONE, call("f", N)), (call("f", N), call("f", ("add", N, ONE)))):
            self.assertEqual(told(notion("f", 0), notion("g", 1, zero=zero, more=more)), ["f", "g"])
            self.assertEqual(told(notion("f", 2), notion("g", 9, zero=zero, more=more)), ["f", "g"])

    def test_names_an_equal_or_higher_one(self):
        for zero, more in ((call("f", N), ONE), (ONE, call("f", N))):
            for floors in ((0, 0), (9, 9), (1, 0), (9, 0), (5, 4)):
                with self.subTest((zero, floors)):
                    self.assertEqual(told(notion("f", floors[0]), notion("g", floors[1], zero=zero, more=more)), ["f"])

    def test_names_several(self):
        more = ("add", call("f", N), ("read", ("with", ("room", call("g", N)), N, call("h", N)), N))
        three = notion("f", 0), notion("g", 1), notion("h", 2)
        self.assertEqual(told(*three, notion("i", 3, more=more)), ["f", "g", "h", "i"])
        self.assertEqual(told(*three, notion("i", 2, more=more)), ["f", "g", "h"])
        for gone in range(3):
            rest = three[:gone] + three[gone + 1:]
            self.assertEqual(told(*rest, notion("i", 3, more=more)), [each[1] for each in rest])

    def test_names_one_within_anothers_places(self):
        more = call("f", ("add", call("g", N), ONE))
        self.assertEqual(told(notion("f", 0), notion("g", 0), notion("h", 1, more=more)), ["f", "g", "h"])
        self.assertEqual(told(notion("f", 0), notion("g", 1), notion("h", 1, more=more)), ["f", "g"])
        self.assertEqual(told(notion("f", 0), notion("h", 1, more=more)), ["f"])

    def test_absent(self):
        for zero, more in ((call("f", N), ONE), (ONE, call("f", N))):
            self.assertEqual(told(notion("g", 9, zero=zero, more=more)), [])

    def test_rings(self):
        for floors in itertools.product((0, 1, 9), repeat=2):
            ring = notion("f", floors[0], more=call("g", N)), notion("g", floors[1], more=call("f", N))
            self.assertEqual(told(*ring), [])
        for floors in itertools.product((0, 1, 2), repeat=3):
            ring = (notion("f", floors[0], more=call("g", N)), notion("g", floors[1], zero=call("h", N)),
                    notion("h", floors[2], more=call("f", LESS_ONE)))
            self.assertEqual(told(*ring, notion("i", 0)), ["i"])

    def test_what_leans_on_what_does_not_stand_firm(self):
        broken = notion("f", 1, more=call("absent", N))
        chain = [broken] + [notion(name, 2 + at, more=call(under, N)) for at, (under, name) in enumerate(("fg", "gh"))]
        self.assertEqual(told(*chain), [])
        self.assertEqual(told(*chain, notion("e", 0), notion("i", 5, more=("add", call("e", N), N))), ["e", "i"])
        self.assertEqual(told(*chain, notion("e", 0), notion("i", 5, more=("add", call("e", N), call("h", N)))), ["e"])
        self.assertEqual(firm({"absent": notion("absent", 0), **{each[1]: each for each in chain}}),
                         ["absent", "f", "g", "h"])

    def test_a_long_chain(self):
        names = "jihgfedcba"
        book = {name: notion(name, at, more=call(names[at - 1], N) if at else ONE) for at, name in enumerate(names)}
        self.assertEqual(firm(book), sorted(names))
        del book["f"]
        self.assertEqual(firm(book), ["g", "h", "i", "j"])


class Places(unittest.TestCase):
    def test_count_and_kinds(self):
        row, one = notion("f", 0, letters=ROW), notion("f", 0)
        four = notion("f", 0, letters=(("a", "number"), ("r", "row"), ("s", "row"), ("n", "number")))
        for lower, places, due in (
                (one, (N,), True), (one, (), False), (one, (N, N), False), (one, (R,), False),
                (one, (("room", N),), False), (one, (("size", R),), True), (one, (R, N), False),
                (row, (R, N), True), (row, (N, R), False), (row, (N, N), False), (row, (R, R), False),
                (row, (R,), False), (row, (N,), False), (row, (R, N, N), False), (row, (R, R, N), False),
                (row, (("with", R, N, ONE), ("read", R, N)), True), (row, (("room", N), N), True),
                (row, (("read", R, N), N), False), (four, (ONE, R, R, N), True), (four, (R, ONE, R, N), False),
                (four, (ONE, R, N), False), (four, (ONE, R, R, R), False), (four, (ONE, R, R, N, N), False)):
            for zero, more in ((call("f", *places), ONE), (ONE, call("f", *places)),
                               (ONE, ("mod", ("mul", 2, ("size", ("room", call("f", *places)))), 3))):
                with self.subTest((places, zero)):
                    upper = notion("g", 1, zero=zero, more=more, letters=ROW)
                    self.assertEqual(told(lower, upper), ["f", "g"] if due else ["f"])

    def test_every_term_is_asked(self):
        more = ("add", call("f", N), call("f", N, N))
        self.assertEqual(told(notion("f", 0), notion("g", 1, more=more)), ["f"])
        self.assertEqual(told(notion("f", 0), notion("g", 1, more=("add", *more[:0:-1]))), ["f"])


class Itself(unittest.TestCase):
    def test_as_told(self):
        for more in (call("f", LESS_ONE), ("add", N, ("mul", 2, call("f", LESS_ONE)))):
            self.assertEqual(told(notion("f", 0, more=more)), ["f"])
            self.assertEqual(told(notion("f", 9, more=more), notion("g", 3)), ["f", "g"])
        two = (("a", "number"), ("n", "number"))
        self.assertEqual(told(notion("f", 0, more=call("f", ("add", A, N), LESS_ONE), letters=two)), ["f"])
        self.assertEqual(told(notion("f", 0, more=call("f", ("with", R, N, ONE), LESS_ONE), letters=ROW)), ["f"])

    def test_in_zero(self):
        self.assertEqual(told(notion("f", 0, zero=call("f", LESS_ONE))), [])
        self.assertEqual(told(notion("f", 5, zero=("add", ONE, call("f", LESS_ONE)), more=call("f", LESS_ONE))), [])

    def test_more_than_once(self):
        once = call("f", LESS_ONE)
        self.assertEqual(told(notion("f", 0, more=("add", once, once))), [])
        self.assertEqual(told(notion("f", 9, more=("add", once, ("mul", 0, once)))), [])

    def test_within_its_own_places(self):
        two = (("a", "number"), ("n", "number"))
        self.assertEqual(told(notion("f", 0, more=call("f", call("f", A, LESS_ONE), LESS_ONE), letters=two)), [])
        self.assertEqual(told(notion("f", 0, more=call("f", ("size", ("room", call("f", A, LESS_ONE))), LESS_ONE),
                                     letters=two)), [])

    def test_with_another_last_place(self):
        for last in (N, ONE, ("add", ("num", -1), N), ("add", N, ("num", -2)), ("add", N, ONE), ("add", A, ("num", -1)),
                     ("add", N, ("mul", -1, ONE)), ("mul", 1, LESS_ONE), ("add", LESS_ONE, ("num", -1)), NOUGHT):
            with self.subTest(last):
                self.assertEqual(told(notion("f", 3, more=call("f", last))), [])
        two = (("n", "number"), ("a", "number"))
        self.assertEqual(told(notion("f", 0, more=call("f", N, LESS_ONE), letters=two)), [])
        self.assertEqual(told(notion("f", 0, more=call("f", N, ("add", A, ("num", -1))), letters=two)), ["f"])

    def test_with_other_places(self):
        for places in ((LESS_ONE,), (N, LESS_ONE), (R, N, LESS_ONE), (R,), (R, R), (), (R, LESS_ONE, LESS_ONE)):
            with self.subTest(places):
                self.assertEqual(told(notion("f", 0, more=call("f", *places), letters=ROW)), [])

    def test_itself_and_others(self):
        more = call("f", ("add", call("g", N), ONE), LESS_ONE)
        two = (("a", "number"), ("n", "number"))
        self.assertEqual(told(notion("f", 1, more=more, letters=two), notion("g", 0)), ["f", "g"])
        self.assertEqual(told(notion("f", 0, more=more, letters=two), notion("g", 0)), ["g"])
        self.assertEqual(told(notion("f", 1, more=more, letters=two)), [])
        self.assertEqual(told(notion("f", 1, more=call("g", call("f", LESS_ONE))), notion("g", 0)), ["f", "g"])

    def test_another_with_the_same_last_place_is_not_itself(self):
        self.assertEqual(told(notion("f", 0, more=call("g", LESS_ONE)), notion("g", 0)), ["g"])


class Told(unittest.TestCase):
    def test_the_names_rise(self):
        names = ["zz", "b", "ab", "a", "abc", "z"]
        self.assertEqual(firm({name: notion(name, at) for at, name in enumerate(names)}),
                         ["a", "ab", "abc", "b", "z", "zz"])

    def test_the_dict_stays_and_the_list_is_the_askers_own(self):
        book = {"g": notion("g", 1, more=call("f", N)), "f": notion("f", 0), "h": notion("h", 0, more=call("i", N))}
        before = copy.deepcopy(book)
        first = firm(book)
        first.append("h")
        self.assertEqual(book, before)
        self.assertEqual(list(book), ["g", "f", "h"])
        self.assertEqual(firm(book), ["f", "g"])

    def test_nothing_is_kept_from_one_dict_to_the_next(self):
        upper = notion("g", 1, more=call("f", N))
        self.assertEqual(firm({"f": notion("f", 0), "g": upper}), ["f", "g"])
        self.assertEqual(firm({"g": upper}), [])
        self.assertEqual(firm({"f": notion("f", 1), "g": upper}), ["f"])

    def test_somewhat_beyond_the_limits_nothing_is_raised(self):
        for letters in ((), NUMBER * 5, (("r", "row"),)):
            self.assertIsInstance(firm({"f": notion("f", 12, more=call("f", LESS_ONE), letters=letters)}), list)


if __name__ == "__main__":
    unittest.main()
