import copy
import random
import unittest

from leapwork.terms import is_plain, is_row, is_saying, is_term
from samples import A, ALLS, ANYTHING, B, ONE, OWN, PLAINS, R, ROWS, TERMS, nested

CHECKS = (is_term, is_row, is_plain, is_saying)
SAMPLES = TERMS + ROWS + PLAINS + ALLS
NOT_WHOLE = (True, False, None, "1", "", (), (1,), [1], 1.0)
NOT_LETTERS = (
    "", "A", "Abc", "a1", "a_b", "a b", "a-b", "abcdefghi", "\u00e9", "\u017f", "\u0430", "a\n", " a",
    -1, -10 ** 20, True, False, None, (), ("a",), ["a"], 1.0, b"a",
)
LESS = ("le", A, B)


def told(thing):
    """What the four checks tell, in their order."""
    return tuple(check(thing) for check in CHECKS)


def with_part(thing, at, part):
    return thing[:at] + (part,) + thing[at + 1:]


def one_wrong(thing):
    """The thing with one part of it made wrong, for each part and each way to do so."""
    yield list(thing)
    yield ("nought", *thing[1:])
    yield (thing[0].upper(), *thing[1:])
    yield (None, *thing[1:])
    yield ([thing[0]], *thing[1:])
    yield thing[:-1]
    yield thing[1:]
    yield (*thing, thing[-1])
    yield (*thing, 1)
    for at in range(1, len(thing)):
        part = thing[at]
        for wrong in (None, True, False, (), [], "", "A", -1.5, [part]):
            if not (thing[0] == "notion" and at == 2 and wrong == ()):
                yield with_part(thing, at, wrong)
        if thing[0] == "notion" and at == 2:
            for place in range(len(part)):
                for worse in one_wrong(part[place]):
                    yield with_part(thing, at, with_part(part, place, worse))
        elif isinstance(part, tuple):
            yield with_part(thing, at, R if part[0] not in ("row", "with", "room") else A)
            for worse in one_wrong(part):
                yield with_part(thing, at, worse)


class Kinds(unittest.TestCase):
    def test_each_form_is_of_its_kind_alone(self):
        for things, due in ((TERMS, (True, False, False, False)), (ROWS, (False, True, False, False)),
                            (PLAINS, (False, False, True, True)), (ALLS, (False, False, False, True))):
            for thing in things:
                with self.subTest(thing):
                    self.assertEqual(told(thing), due)

    def test_told_is_a_truth(self):
        for thing in SAMPLES + ANYTHING:
            for answer in told(thing):
                self.assertIs(type(answer), bool)

    def test_several_within_one_another(self):
        term, row, plain = A, R, LESS
        for deep in range(15):
            row = ("with", ("room", ("add", term, ONE)), A, ("num", deep))
            term = ("div", ("notion", "f", (B, ("read", row, ("num", deep)))), 2)
            plain = ("and", ("not", plain), ("le", term, B))
        self.assertEqual(told(term), (True, False, False, False))
        self.assertEqual(told(row), (False, True, False, False))
        self.assertEqual(told(plain), (False, False, True, True))
        self.assertEqual(told(("all", A, term, ("or", ("le", term, B), plain))), (False, False, False, True))

    def test_the_handed_thing_stays(self):
        things = [thing for thing in SAMPLES + ANYTHING if isinstance(thing, (tuple, list, str, dict))]
        before = copy.deepcopy(things)
        for thing in things:
            told(thing)
        self.assertEqual(things, before)


class Wrong(unittest.TestCase):
    def test_one_part_wrong(self):
        for thing in SAMPLES:
            for wrong in one_wrong(thing):
                with self.subTest(wrong):
                    self.assertEqual(told(wrong), (False,) * 4)

    def test_anything(self):
        for thing in ANYTHING:
            self.assertEqual(told(thing), (False,) * 4)

    def test_another_word_of_the_language(self):
        for wrong in (("name", 1, 2), ("add", 1, A), ("mul", A, 1), ("mul", A, B), ("add", A), ("read", A, R),
                      ("read", A, B), ("read", R, S_AS_PLACE), ("size", A), ("size", R, A), ("row", A), ("room", R),
                      ("room", 1), ("with", A, A, B), ("with", R, R, B), ("with", R, A, R), ("with", R, A),
                      ("div", 2, A), ("div", A, A), ("mod", R, 2), ("le", A, R), ("eq", R, R), ("eq", A, 1),
                      ("not", A), ("not", R), ("and", LESS), ("and", LESS, A), ("or", A, LESS), ("not", LESS, LESS),
                      ("num", A), ("num", "a"), ("name", A), ("row", R), ("notion", "f", A, B), ("notion", "f"),
                      ("notion", ("a",), (A,)), ("add", LESS, A), ("le", LESS, A), ("eq", LESS, LESS)):
            with self.subTest(wrong):
                self.assertEqual(told(wrong), (False,) * 4)

    def test_very_deep_things(self):
        for deep in (99, 5000):
            plain, term, row, broken = LESS, A, R, ("num", None)
            for _ in range(deep):
                plain, term, row, broken = ("not", plain), ("mul", 2, term), ("with", row, A, B), ("add", A, broken)
            self.assertEqual(told(plain), (False, False, True, True))
            self.assertEqual(told(term), (True, False, False, False))
            self.assertEqual(told(row), (False, True, False, False))
            self.assertEqual(told(("all", term, A, plain)), (False, False, False, True))
            for wrong in (broken, ("le", broken, A), nested("num", deep), ("num", nested(1, deep)),
                          (nested("num", deep), 1), ("all", broken, A, plain)):
                self.assertEqual(told(wrong), (False,) * 4)


S_AS_PLACE = ("row", "s")


class Numbers(unittest.TestCase):
    def test_whole_numbers(self):
        for number in (0, 1, -1, 10 ** 9 + 1, -10 ** 300, 10 ** 5000):
            self.assertTrue(is_term(("num", number)))
            self.assertTrue(is_term(("mul", number, A)))

    def test_what_is_no_whole_number(self):
        for number in NOT_WHOLE:
            with self.subTest(number):
                for thing in (("num", number), ("mul", number, A), ("div", A, number), ("mod", A, number)):
                    self.assertEqual(told(thing), (False,) * 4)
                    self.assertFalse(is_term(("add", A, thing)))

    def test_divisors(self):
        for word in ("div", "mod"):
            for divisor, due in ((-1, False), (0, False), (1, True), (2, True), (10 ** 9 - 1, True), (10 ** 9, True),
                                 (10 ** 9 + 1, False), (10 ** 40, False), (-10 ** 9, False)):
                with self.subTest((word, divisor)):
                    self.assertIs(is_term((word, A, divisor)), due)


class Letters(unittest.TestCase):
    def test_kinds_of_letters(self):
        for letter, number, row in (("a", True, True), ("z", True, True), ("abcdefgh", True, True), (0, True, True),
                                    (1, True, True), (10 ** 30, True, True), ("left", True, False),
                                    ("own", True, False), ("given", True, True), ("owns", True, True),
                                    ("lef", True, True), ("num", True, True), ("row", True, True)):
            with self.subTest(letter):
                self.assertIs(is_term(("name", letter)), number)
                self.assertIs(is_row(("row", letter)), row)
                self.assertIs(is_plain(("le", ("name", letter), A)), number)
                self.assertIs(is_term(("size", ("row", letter))), row)

    def test_what_is_no_letter(self):
        for letter in NOT_LETTERS:
            with self.subTest(letter):
                self.assertEqual(told(("name", letter)), (False,) * 4)
                self.assertEqual(told(("row", letter)), (False,) * 4)
                self.assertFalse(is_plain(("eq", A, ("name", letter))))
                self.assertFalse(is_term(("read", ("row", letter), A)))

    def test_left_and_own_are_no_rows(self):
        for letter in ("left", "own"):
            for thing in (("size", ("row", letter)), ("notion", "f", (("row", letter),)),
                          ("with", ("row", letter), A, B)):
                self.assertEqual(told(thing), (False,) * 4)


class NotionTerms(unittest.TestCase):
    def test_names(self):
        for name in ("f", "abcdefgh", "num", "owner"):
            self.assertTrue(is_term(("notion", name, (A,))))
        for name in (*NOT_LETTERS, "left", "given", "own", 0, 1):
            with self.subTest(name):
                self.assertEqual(told(("notion", name, (A,))), (False,) * 4)

    def test_places(self):
        for places in ((), (A,), (R,), (A, R), (("room", A), ("size", R), ("notion", "g", ())), (A,) * 9):
            self.assertTrue(is_term(("notion", "f", places)))
        for places in ([], [A], None, 0, "", "a", A, R, (1,), ("a",), (None,), ((),), (LESS,), (A, [R]), (("row", "own"),),
                       (A, ("all", A, B, LESS)), {}):
            with self.subTest(places):
                self.assertEqual(told(("notion", "f", places)), (False,) * 4)


class Alls(unittest.TestCase):
    def test_own_within_its_saying(self):
        for saying in (("le", OWN, A), ("not", ("eq", ("read", R, OWN), ("notion", "f", (OWN, R))))):
            self.assertTrue(is_saying(("all", A, B, saying)))
            self.assertFalse(is_plain(("all", A, B, saying)))

    def test_own_within_its_bounds(self):
        for bound in (OWN, ("add", ONE, OWN), ("read", R, ("mul", 2, OWN)), ("size", ("room", OWN)),
                      ("notion", "f", (R, ("with", R, A, OWN))), ("mod", ("div", OWN, 2), 3)):
            with self.subTest(bound):
                self.assertTrue(is_term(bound))
                self.assertEqual(told(("all", bound, B, LESS)), (False,) * 4)
                self.assertEqual(told(("all", A, bound, LESS)), (False,) * 4)

    def test_other_letters_within_its_bounds(self):
        for letter in ("left", "given", "a", 0, 7):
            self.assertTrue(is_saying(("all", ("name", letter), ("name", letter), LESS)))

    def test_bounds_of_other_kinds(self):
        for bound in (R, ("room", A), LESS, 0, None, "a", (), [], ("name", "A"), ("num", True)):
            with self.subTest(bound):
                self.assertEqual(told(("all", bound, B, LESS)), (False,) * 4)
                self.assertEqual(told(("all", A, bound, LESS)), (False,) * 4)

    def test_an_all_within_a_saying(self):
        each = ("all", A, B, LESS)
        for thing in (("not", each), ("and", LESS, each), ("or", each, LESS), ("all", A, B, each),
                      ("all", A, B, ("not", each)), ("le", each, A), ("all", each, B, LESS)):
            with self.subTest(thing):
                self.assertEqual(told(thing), (False,) * 4)

    def test_own_and_left_outside_of_alls_are_letters_by_form(self):
        self.assertTrue(is_plain(("le", OWN, ("name", "left"))))
        self.assertTrue(is_saying(("le", OWN, ("name", "left"))))


def oracle(thing):
    """The four answers, reckoned a second time and in another way."""
    term, row, plain = of_term(thing), of_row(thing), of_plain(thing)
    each = (begins(thing, "all", 4) and of_term(thing[1]) and of_term(thing[2]) and of_plain(thing[3])
            and not has_own(thing[1:3]))
    return term, row, plain, plain or each


def has_own(thing):
    return thing == "own" or isinstance(thing, tuple) and any(has_own(part) for part in thing)


def begins(thing, word, many):
    return type(thing) is tuple and len(thing) == many and type(thing[0]) is str and thing[0] == word


def of_letter(thing, kept):
    if type(thing) is int:
        return thing >= 0
    if type(thing) is not str:
        return False
    return thing in kept or thing not in ("left", "given", "own") and 0 < len(thing) < 9 and all(
        97 <= ord(sign) <= 122 for sign in thing)


def of_term(thing):
    return (begins(thing, "num", 2) and type(thing[1]) is int
            or begins(thing, "name", 2) and of_letter(thing[1], ("left", "given", "own"))
            or begins(thing, "add", 3) and of_term(thing[1]) and of_term(thing[2])
            or begins(thing, "mul", 3) and type(thing[1]) is int and of_term(thing[2])
            or begins(thing, "read", 3) and of_row(thing[1]) and of_term(thing[2])
            or begins(thing, "size", 2) and of_row(thing[1])
            or (begins(thing, "div", 3) or begins(thing, "mod", 3)) and of_term(thing[1])
            and type(thing[2]) is int and thing[2] in range(1, 10 ** 9 + 1)
            or begins(thing, "notion", 3) and type(thing[1]) is str and of_letter(thing[1], ())
            and type(thing[2]) is tuple and all(of_term(place) or of_row(place) for place in thing[2]))


def of_row(thing):
    return (begins(thing, "row", 2) and of_letter(thing[1], ("given",))
            or begins(thing, "with", 4) and of_row(thing[1]) and of_term(thing[2]) and of_term(thing[3])
            or begins(thing, "room", 2) and of_term(thing[1]))


def of_plain(thing):
    return ((begins(thing, "le", 3) or begins(thing, "eq", 3)) and of_term(thing[1]) and of_term(thing[2])
            or begins(thing, "not", 2) and of_plain(thing[1])
            or (begins(thing, "and", 3) or begins(thing, "or", 3)) and of_plain(thing[1]) and of_plain(thing[2]))


class Shuffled(unittest.TestCase):
    def test_parts_exchanged(self):
        chance = random.Random(4)
        pool = SAMPLES + ANYTHING[:24] + ["left", "given", "own", "a", "f", 1, 10 ** 9, 10 ** 9 + 1]
        seen = {True: 0, False: 0}
        for _ in range(20000):
            thing = self.changed(chance, chance.choice(SAMPLES), pool)
            self.assertEqual(told(thing), oracle(thing), thing)
            seen[any(told(thing))] += 1
        self.assertGreater(min(seen.values()), 2000)

    def changed(self, chance, thing, pool):
        if not isinstance(thing, tuple) or not thing or chance.random() < 0.2:
            return chance.choice(pool)
        at = chance.randrange(len(thing))
        if at == 0 and chance.random() < 0.8:
            return thing
        return with_part(thing, at, self.changed(chance, thing[at], pool))


if __name__ == "__main__":
    unittest.main()
