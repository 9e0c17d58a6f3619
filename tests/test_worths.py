import copy
import random
import unittest

from by_hand import any_plain, any_row, any_term, looked_by_hand, worth_by_hand
from leapwork.notions import firm
from leapwork.worths import first_no, looked, truth_of, worth_of
from samples import A, B, LESS_ONE, N, NOUGHT, ONE, OWN, R, S

ROW = (5, ((-2, 9), (0, 3), (2, -4), (7, 100)))
TABLE = {"a": 7, "b": -7, "r": ROW, "s": (0, ())}
BIG = 10 ** 29 + 123456789
NUMBERS, ROW_AND_NUMBER = (("n", "number"),), (("r", "row"), ("n", "number"))
COUNT = ("notion", "count", 0, NUMBERS, NOUGHT, ("add", ("notion", "count", (LESS_ONE,)), ONE))
PLAIN = ("notion", "plain", 0, NUMBERS, ("num", -1), ("mul", 2, N))
TOTAL = ("notion", "total", 1, ROW_AND_NUMBER, NOUGHT,
         ("add", ("read", R, LESS_ONE), ("notion", "total", (R, LESS_ONE))))
SHIFT = ("notion", "shift", 3, (("a", "number"), ("r", "row"), ("n", "number")), ("add", A, ("size", R)),
         ("notion", "shift", (("add", A, N), ("with", ("room", N), N, A), LESS_ONE)))
OVER = ("notion", "over", 2, NUMBERS, ("notion", "plain", (("num", 4),)),
        ("notion", "plain", (("add", ("notion", "over", (LESS_ONE,)), ("notion", "count", (N,))),)))
NOTIONS = {notion[1]: notion for notion in (COUNT, PLAIN, TOTAL, SHIFT, OVER)}


def num(n):
    return ("num", n)


def call(name, *places):
    return ("notion", name, places)


def places_from(low, high, saying=("le", NOUGHT, NOUGHT)):
    return ("all", low, high, saying)


class WorthOfTerms(unittest.TestCase):
    def told(self, thing, due, table=TABLE, notions=NOTIONS):
        with self.subTest(thing):
            self.assertEqual(worth_of(thing, table, notions), due)

    def test_each_form(self):
        for thing, due in ((num(5), 5), (num(-5), -5), (A, 7), (("add", A, num(3)), 10), (("mul", -3, A), -21),
                           (("mul", 0, A), 0), (("read", R, num(2)), -4), (("size", R), 5), (("div", A, 2), 3),
                           (("mod", A, 2), 1), (call("plain", A), 14), (R, ROW), (S, (0, ())),
                           (("room", A), (7, ())), (("with", R, ONE, A), (5, ((-2, 9), (0, 3), (1, 7), (2, -4), (7, 100))))):
            self.told(thing, due)

    def test_left_own_given_and_numbers_are_letters(self):
        table = {"left": 1, "own": 2, "given": 3, 0: 4, 17: (2, ((1, 5),))}
        self.told(("add", ("name", "left"), ("add", OWN, ("add", ("name", "given"), ("name", 0)))), 10, table)
        self.told(("read", ("row", 17), ONE), 5, table)
        self.told(("read", ("row", "given"), NOUGHT), 8, {"given": (1, ((0, 8),))})

    def test_div_and_mod_round_down(self):
        for n in range(-12, 13):
            for k in (1, 2, 3, 7, 10 ** 9):
                down, rest = worth_of(("div", num(n), k), {}, {}), worth_of(("mod", num(n), k), {}, {})
                self.assertEqual(down * k + rest, n)
                self.assertTrue(0 <= rest < k)
        self.told(("div", num(-1), 10 ** 9), -1)
        self.told(("mod", num(-1), 10 ** 9), 10 ** 9 - 1)

    def test_numbers_of_thirty_figures(self):
        self.told(("add", num(BIG), num(BIG)), 2 * BIG)
        self.told(("mul", -BIG, num(BIG)), -BIG * BIG)
        self.told(("div", num(-BIG), 7), -BIG // 7)
        self.told(("mod", num(-BIG), 10 ** 9), -BIG % 10 ** 9)
        self.told(("read", ("with", R, num(BIG), num(-BIG)), num(BIG)), -BIG)
        self.told(("size", ("room", num(BIG))), BIG)

    def test_reads_within_and_beyond(self):
        for place in range(-4, 10):
            self.told(("read", R, num(place)), dict(ROW[1]).get(place, 0))
            self.told(("read", S, num(place)), 0)
            self.told(("read", ("room", num(3)), num(place)), 0)

    def test_with_writes_anywhere_and_keeps_the_size(self):
        for place in (-9, -2, 0, 1, 2, 4, 5, 7, 8, 10 ** 20):
            for number in (0, 1, -6):
                due = {**dict(ROW[1]), place: number}
                due = (5, tuple(sorted((at, n) for at, n in due.items() if n)))
                self.told(("with", R, num(place), num(number)), due)
                self.told(("read", ("with", R, num(place), num(number)), num(place)), number)
                self.told(("size", ("with", R, num(place), num(number))), 5)
        self.told(("with", ("with", ("room", num(2)), ONE, A), ONE, NOUGHT), (2, ()))
        self.told(("with", ("with", S, num(3), A), num(-3), A), (0, ((-3, 7), (3, 7))))

    def test_room_of_less_than_nothing(self):
        for n, size in ((-3, 0), (-1, 0), (0, 0), (1, 1), (10 ** 12, 10 ** 12)):
            self.told(("room", num(n)), (size, ()))
            self.told(("size", ("room", num(n))), size)

    def test_several_within_one_another(self):
        self.told(("add", ("read", ("with", ("room", num(4)), ("mod", A, 4), ("size", R)), num(3)),
                   ("mul", 2, ("div", ("add", A, B), 3))), 5)
        self.told(("read", ("with", R, ("read", R, NOUGHT), A), ("size", ("room", num(3)))), 7)
        deep = A
        for _ in range(99):
            deep = ("add", deep, ONE)
        self.told(deep, 106)
        self.told(("read", ("row", "r"), ("mod", deep, 9)), 100)

    def test_letters_that_the_table_has_not(self):
        for table in ({}, {"b": 1}, {"a": ROW}, {"a": None}, {"a": True}):
            self.told(A, None, table)
            self.told(("add", ONE, ("mul", 0, A)), None, table)
            self.told(("read", R, A), None, {**table, "r": ROW})
        for table in ({}, {"s": ROW}, {"r": 3}, {"r": None}):
            for thing in (R, ("size", R), ("read", R, ONE), ("with", R, ONE, ONE), call("total", R, NOUGHT)):
                self.told(thing, None, table)
        self.told(("room", A), None, {})
        self.told(("with", S, ONE, A), None, {"s": ROW})
        self.told(("with", S, A, ONE), None, {"s": ROW})

    def test_asked_again_and_nothing_changed(self):
        rows = (3, ((0, 1), (1, 2), (2, 3)))
        table, thing = {"r": rows, "a": 3}, ("add", call("total", ("with", R, ONE, num(8)), A), ("size", R))
        notions = copy.deepcopy(NOTIONS)
        before = copy.deepcopy((table, thing))
        for _ in range(3):
            self.assertEqual(worth_of(thing, table, notions), 15)
            self.assertEqual(truth_of(places_from(NOUGHT, A, ("le", OWN, A)), table, notions), True)
        self.assertEqual((table, thing), before)
        self.assertEqual((notions, list(notions)), (NOTIONS, list(NOTIONS)))
        self.assertNotIn("own", table)


class Notions(unittest.TestCase):
    def told(self, thing, due, table=TABLE, notions=NOTIONS):
        with self.subTest(thing):
            self.assertEqual(worth_of(thing, table, notions), due)

    def test_at_nought_below_and_beyond(self):
        for n in range(-3, 9):
            self.told(call("count", num(n)), max(0, n))
            self.told(call("plain", num(n)), -1 if n <= 0 else 2 * n)
            self.told(call("total", R, num(n)), sum(dict(ROW[1]).get(place, 0) for place in range(n)))

    def test_its_other_places_may_change_by_each_opening(self):
        self.told(call("shift", A, R, num(-4)), 12)
        self.told(call("shift", A, R, NOUGHT), 12)
        self.told(call("shift", A, R, ONE), 9)
        self.told(call("shift", A, R, num(4)), 7 + 4 + 3 + 2 + 1 + 1)

    def test_one_within_another(self):
        over = 8
        for n in range(1, 6):
            over = 2 * (over + n)
            self.told(call("over", num(n)), over)
        self.told(call("count", call("count", call("plain", num(3)))), 6)
        self.told(call("total", ("with", ("room", call("count", num(2))), NOUGHT, call("plain", num(5))), ONE), 10)
        self.told(call("shift", call("shift", ONE, S, ONE), ("row", "s"), NOUGHT), 3)

    def test_within_an_all(self):
        saying = places_from(num(-2), num(4), ("le", call("count", OWN), num(3)))
        self.assertIs(truth_of(saying, {}, NOTIONS), True)
        saying = places_from(num(-2), num(5), ("le", call("count", OWN), num(3)))
        self.assertIs(truth_of(saying, {}, NOTIONS), False)
        self.assertEqual(first_no(saying, {}, NOTIONS), 4)

    def test_only_its_own_places_are_its_letters(self):
        reads_more = {"f": ("notion", "f", 0, NUMBERS, A, A)}
        self.told(call("f", ONE), None, {"a": 4}, reads_more)

    def test_those_that_may_not_be_asked(self):
        no_floor = {**NOTIONS, "over": OVER[:2] + (0,) + OVER[3:]}
        absent = {name: NOTIONS[name] for name in ("over", "count")}
        for thing, notions in ((call("none", ONE), NOTIONS), (call("over", ONE), no_floor), (call("over", ONE), absent),
                               (call("over", NOUGHT), absent), (call("count"), NOTIONS), (call("count", R), NOTIONS),
                               (call("count", A, A), NOTIONS), (call("total", A, A), NOTIONS),
                               (call("total", R, R), NOTIONS), (call("total", A, R), NOTIONS),
                               (call("count", ("name", "x")), NOTIONS), (call("total", ("row", "x"), ONE), NOTIONS),
                               (call("count", call("none")), NOTIONS), (call("count", ONE), {})):
            self.told(thing, None, TABLE, notions)
            self.told(("mul", 0, thing), None, TABLE, notions)
            self.assertIsNone(truth_of(("or", ("le", NOUGHT, ONE), ("le", thing, thing)), TABLE, notions))
            self.assertIsNone(truth_of(("and", ("le", ONE, NOUGHT), ("le", thing, thing)), TABLE, notions))
            self.assertIsNone(truth_of(places_from(thing, NOUGHT), TABLE, notions))
            self.assertIsNone(truth_of(places_from(ONE, thing), TABLE, notions))

    def test_beyond_four_hundred_openings(self):
        self.told(call("count", num(399)), 399)
        for n in (400, 401, 5000, 10 ** 30):
            self.told(call("count", num(n)), None)
        self.told(("add", call("count", num(199)), call("count", num(199))), 398)
        self.told(("add", call("count", num(199)), call("count", num(200))), None)
        self.told(call("over", num(17)), worth_by_hand(call("over", num(17)), {}, NOTIONS, list(NOTIONS)))
        self.told(call("over", num(60)), None)


class Sayings(unittest.TestCase):
    def told(self, saying, due, table=TABLE, notions=NOTIONS):
        with self.subTest(saying):
            self.assertIs(truth_of(saying, table, notions), due)
            self.assertIs(looked(saying, table, notions)[0], due)
            if saying[0] != "all":
                self.assertIsNone(first_no(saying, table, notions))

    def test_plain_ones(self):
        yes, no = ("le", NOUGHT, ONE), ("eq", NOUGHT, ONE)
        for saying, due in ((("le", B, A), True), (("le", A, A), True), (("le", A, B), False), (("eq", A, A), True),
                            (("eq", A, B), False), (("eq", ("mul", -1, B), A), True), (("not", yes), False),
                            (("not", no), True), (("and", yes, yes), True), (("and", yes, no), False),
                            (("and", no, yes), False), (("and", no, no), False), (("or", yes, yes), True),
                            (("or", yes, no), True), (("or", no, yes), True), (("or", no, no), False),
                            (("not", ("and", ("or", no, yes), ("not", yes))), True)):
            self.told(saying, due)

    def test_what_has_a_part_without_a_truth(self):
        yes, no, none = ("le", NOUGHT, ONE), ("eq", NOUGHT, ONE), ("eq", ("name", "x"), ("name", "x"))
        for saying in (none, ("not", none), ("and", no, none), ("and", none, no), ("or", yes, none), ("or", none, yes),
                       ("and", yes, none), ("or", no, none), ("le", ONE, ("name", "r"))):
            self.told(saying, None)

    def test_alls(self):
        for low, high, due, place in ((3, 3, True, None), (3, 2, True, None), (10 ** 30, -10 ** 30, True, None),
                                      (4, 5, True, None), (5, 6, False, 5), (-7, 5, True, None), (-7, 6, False, 5),
                                      (8, 10 ** 30, False, 8), (-10 ** 30, -10 ** 30 + 5, True, None)):
            saying = places_from(num(low), num(high), ("le", OWN, num(4)))
            self.told(saying, due)
            self.assertEqual(first_no(saying, TABLE, NOTIONS), place)

    def test_an_all_over_a_row(self):
        rising = places_from(NOUGHT, ("add", ("size", R), num(-1)),
                             ("le", ("read", R, OWN), ("read", R, ("add", OWN, ONE))))
        self.told(rising, True, {"r": (4, ((0, -5), (2, 1), (3, 1)))})
        self.told(rising, False, {"r": (4, ((0, -5), (1, 2), (2, 1), (3, 1)))})
        self.assertEqual(first_no(rising, {"r": (4, ((0, -5), (1, 2), (2, 1)))}, {}), 1)

    def test_the_first_place_that_is_not_so_or_has_no_truth(self):
        # At 3 it isn't so, at 5 there is none: the notion is opened too often.
        bad = ("and", ("not", ("eq", OWN, num(3))), ("le", NOUGHT, call("count", ("mul", 500, ("div", OWN, 5)))))
        for low, due, place in ((0, False, 3), (3, False, 3), (4, None, None), (5, None, None), (6, None, None)):
            saying = places_from(num(low), num(9), bad)
            self.told(saying, due)
            self.assertEqual(first_no(saying, TABLE, NOTIONS), place)
        none = ("le", OWN, ("name", "x"))
        self.told(places_from(NOUGHT, ONE, none), None)
        self.told(places_from(NOUGHT, NOUGHT, none), True)
        self.told(places_from(("name", "x"), NOUGHT), None)
        self.told(places_from(ONE, ("name", "x")), None)
        self.assertIsNone(first_no(places_from(NOUGHT, ONE, none), TABLE, NOTIONS))

    def test_own_within_an_all_is_the_place_alone(self):
        self.told(places_from(NOUGHT, num(3), ("le", OWN, num(2))), True, {"own": 50})
        self.told(("eq", OWN, num(50)), True, {"own": 50})
        self.told(("eq", OWN, num(50)), None, {})

    def test_first_no_of_all_else(self):
        for saying in (("le", ONE, NOUGHT), ("not", ("le", NOUGHT, ONE)), ("and", ("le", A, B), ("le", A, B))):
            self.assertIsNone(first_no(saying, TABLE, NOTIONS))
        self.assertIsNone(first_no(places_from(NOUGHT, num(5)), TABLE, NOTIONS))


class Counts(unittest.TestCase):
    def counted(self, saying, truth, count, table=TABLE, notions=NOTIONS):
        with self.subTest(saying):
            self.assertEqual(looked(saying, table, notions), (truth, count))
            self.assertIs(looked(saying, table, notions)[0], truth)

    def not_counted(self, saying, table=TABLE):
        with self.subTest(saying):
            truth, count = looked(saying, table, NOTIONS)
            self.assertIsNone(truth)
            self.assertIs(type(count), int)
            self.assertTrue(0 <= count <= 401)
            self.assertIsNone(first_no(saying, table, NOTIONS))

    def test_of_each(self):
        self.counted(("le", A, B), False, 0)
        self.counted(("le", NOUGHT, call("plain", A)), True, 1)
        self.counted(("le", NOUGHT, call("plain", NOUGHT)), False, 1)
        self.counted(("le", NOUGHT, call("count", num(-8))), True, 1)
        self.counted(("le", NOUGHT, call("count", num(5))), True, 6)
        self.counted(("le", NOUGHT, call("over", NOUGHT)), True, 2)
        self.counted(("le", NOUGHT, call("over", ONE)), True, 1 + 1 + (1 + 1) + 2)
        self.counted(("le", NOUGHT, call("count", call("count", num(2)))), True, 6)
        self.counted(("le", call("shift", A, R, num(3)), NOUGHT), False, 4)

    def test_the_places_of_a_notion_are_reckoned_once_an_opening(self):
        twice = ("notion", "twice", 5, NUMBERS, NOUGHT, ("add", N, ("add", N, N)))
        self.counted(("le", call("twice", call("count", num(3))), NOUGHT), False, 5, {}, {**NOTIONS, "twice": twice})
        below = ("notion", "below", 5, (("a", "number"), ("n", "number")), A,
                 call("below", ("add", A, call("count", ONE)), LESS_ONE))
        self.counted(("le", call("below", A, num(3)), NOUGHT), False, 4 + 3 * 2, TABLE, {**NOTIONS, "below": below})

    def test_both_parts_are_reckoned(self):
        short, long = ("le", call("count", ONE), NOUGHT), ("le", NOUGHT, call("count", num(3)))
        self.counted(("and", short, long), False, 2 + 4)
        self.counted(("and", long, short), False, 4 + 2)
        self.counted(("or", long, short), True, 6)
        self.counted(("not", ("or", short, short)), True, 4)

    def test_alls(self):
        self.counted(places_from(NOUGHT, NOUGHT), True, 0)
        self.counted(places_from(NOUGHT, ONE), True, 1)
        self.counted(places_from(num(-3), num(4)), True, 7)
        self.counted(places_from(NOUGHT, num(9), ("le", OWN, num(3))), False, 5)
        self.counted(places_from(call("count", ONE), call("count", num(4))), True, 2 + 5 + 3)
        self.counted(places_from(NOUGHT, num(3), ("le", NOUGHT, call("count", OWN))), True, 3 + 1 + 2 + 3)

    def test_the_bound(self):
        for many in (399, 400):
            self.counted(places_from(NOUGHT, num(many)), True, many)
            self.counted(places_from(num(10 ** 30), num(10 ** 30 + many)), True, many)
            self.counted(places_from(NOUGHT, num(10 ** 20), ("not", ("eq", OWN, num(many - 1)))), False, many)
            self.assertEqual(first_no(places_from(NOUGHT, num(10 ** 20), ("not", ("eq", OWN, num(many - 1)))), {}, {}),
                             many - 1)
            self.counted(("le", NOUGHT, call("count", num(many - 1))), True, many)
        for many in (401, 402, 10 ** 30):
            self.not_counted(places_from(NOUGHT, num(many)))
            self.not_counted(places_from(NOUGHT, num(many + 1), ("not", ("eq", OWN, num(many - 1)))))
            self.not_counted(("le", NOUGHT, call("count", num(many - 1))))
        self.assertEqual(looked(places_from(NOUGHT, num(401)), {}, {}), (None, 401))

    def test_the_bound_with_notions_beside(self):
        for more, due in ((198, True), (199, True), (200, None)):
            saying = places_from(NOUGHT, call("plain", num(more)), ("le", OWN, num(5000)))
            if due:
                self.counted(saying, True, 1 + 2 * more)
            else:
                self.not_counted(saying)
        self.counted(places_from(NOUGHT, num(200), ("le", call("plain", OWN), num(5000))), True, 400)
        self.not_counted(places_from(NOUGHT, num(201), ("le", call("plain", OWN), num(5000))))

    def test_the_bound_in_two_parts_of_one_saying(self):
        def parts(one, other):
            return ("or", ("le", NOUGHT, call("count", num(one))), ("le", NOUGHT, call("count", num(other))))
        self.counted(parts(198, 199), True, 399)
        self.counted(parts(199, 199), True, 400)
        self.not_counted(parts(199, 200))
        self.not_counted(parts(400, 0))
        self.not_counted(parts(0, 400))

    def test_the_bound_is_each_looks_own(self):
        saying = places_from(NOUGHT, num(400))
        for _ in range(3):
            self.counted(saying, True, 400)
            self.assertEqual(worth_of(call("count", num(399)), {}, NOTIONS), 399)


class ByChance(unittest.TestCase):
    KINDS = (("count", ("number",)), ("plain", ("number",)), ("total", ("row", "number")), ("over", ("number",)),
             ("shift", ("number", "row", "number")), ("none", ("number",)), ("count", ("row",)))

    def test_worths_and_truths(self):
        chance = random.Random(6)
        standing = firm(NOTIONS)
        self.assertEqual(standing, sorted(NOTIONS))
        for _ in range(1500):
            table = {"a": chance.randrange(-5, 9), "b": chance.randrange(-5, 9), "own": 2,
                     "r": (chance.randrange(6), tuple((k, chance.choice((-2, 1, 5))) for k in range(chance.randrange(6))))}
            if chance.random() < 0.7:
                table["s"] = (2, ((-1, 4), (1, 3)))
            kinds = self.KINDS if chance.random() < 0.3 else self.KINDS[:5]
            for make in (any_term, any_row):
                thing = make(chance, 5, notions=kinds)
                self.assertEqual(worth_of(thing, table, NOTIONS), worth_by_hand(thing, table, NOTIONS, standing), thing)
            plain = any_plain(chance, 5, (A, B, OWN), notions=kinds)
            whole = ("all", any_term(chance, 2), any_term(chance, 3), plain)
            for saying in (plain, whole):
                truth, count = looked_by_hand(saying, table, NOTIONS, standing)
                told = looked(saying, table, NOTIONS)
                self.assertIs(told[0], truth, saying)
                self.assertIs(truth_of(saying, table, NOTIONS), truth)
                if truth is not None:
                    self.assertEqual(told[1], count, saying)


if __name__ == "__main__":
    unittest.main()
