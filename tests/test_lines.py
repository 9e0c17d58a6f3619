import copy
import random
import unittest

from by_hand import any_plain, any_term, looked_by_hand, worth_by_hand
from leapwork.errors import BadLine
from leapwork.lines import Line, is_closed, line_of, made
from samples import A, B, NOUGHT, ONE, OWN, R

C = ("name", "c")
ATOM, SAME = ("read", R, ("add", A, ONE)), ("read", R, ("add", ONE, ("mul", 1, A)))


def num(n):
    return ("num", n)


def le(n, *pairs):
    return Line("le", pairs, n)


def eq(n, *pairs):
    return Line("eq", pairs, n)


class Lines(unittest.TestCase):
    def test_its_fields(self):
        line = Line("le", ((A, 2), (B, -1)), 7)
        self.assertEqual((line.kind, line.pairs, line.number), ("le", ((A, 2), (B, -1)), 7))

    def test_how_many_pairs(self):
        for many in range(4):
            self.assertEqual(len(Line("eq", ((A, 1),) * many, 3)), many)

    def test_equal_ones(self):
        for one, other in ((le(3, (A, 1)), le(3, (A, 1))), (eq(0), eq(0)), (le(3, (A, 1), (B, 2)), le(3, (B, 2), (A, 1))),
                           (le(3, (ATOM, 1), (B, 2)), le(3, (B, 2), (SAME, 1))), (le(0, (ATOM, 2)), le(0, (SAME, 2))),
                           (eq(1, (A, 1), (B, 1), (A, 1)), eq(1, (A, 1), (A, 1), (B, 1))),
                           (eq(1, (ATOM, 1), (B, 1), (SAME, 4)), eq(1, (SAME, 1), (ATOM, 4), (B, 1)))):
            self.assertTrue(one == other)
            self.assertTrue(other == one)
            self.assertFalse(one != other)

    def test_unlike_ones(self):
        line = le(3, (A, 1), (B, 2))
        for other in (eq(3, (A, 1), (B, 2)), le(4, (A, 1), (B, 2)), le(3, (A, 1)), le(3, (A, 1), (B, 3)),
                      le(3, (A, 2), (B, 1)), le(3, (A, 1), (C, 2)), le(3, (A, 1), (B, 2), (C, 0)), le(3),
                      le(3, (A, 1), (B, 1), (B, 1)), le(3, (A, 1), (A, 1), (B, 2)), le(3, (A, 1), (B, 2), (B, 2))):
            self.assertFalse(line == other)
            self.assertFalse(other == line)
            self.assertTrue(line != other)
        self.assertFalse(le(3, (A, 1), (A, 1)) == le(3, (A, 2)))

    def test_against_what_is_no_line(self):
        line = le(3, (A, 1))
        for other in (None, 0, "le", ("le", ((A, 1),), 3), ["le", ((A, 1),), 3], [], (), line.pairs, True):
            self.assertFalse(line == other)
            self.assertFalse(other == line)
            self.assertTrue(line != other)


class LineOf(unittest.TestCase):
    def told(self, saying, due):
        with self.subTest(saying):
            told = line_of(saying)
            self.assertIsInstance(told, Line)
            self.assertEqual((told.kind, told.pairs, told.number), (due.kind, due.pairs, due.number))

    def test_at_most(self):
        self.told(("le", A, B), le(0, (A, 1), (B, -1)))
        self.told(("le", B, A), le(0, (B, 1), (A, -1)))
        self.told(("le", ("add", A, num(4)), num(9)), le(5, (A, 1)))
        self.told(("le", num(4), A), le(-4, (A, -1)))
        self.told(("le", num(4), num(1)), le(-3))
        self.told(("le", ("add", A, B), ("add", B, ("mul", 3, A))), le(0, (A, -2)))
        self.told(("le", ATOM, ("add", B, SAME)), le(0, (B, -1)))
        self.told(("le", ("mul", 0, A), ("add", B, A)), le(0, (A, -1), (B, -1)))

    def test_just(self):
        self.told(("eq", A, B), eq(0, (A, 1), (B, -1)))
        self.told(("eq", num(4), ("add", A, num(1))), eq(-3, (A, -1)))
        self.told(("eq", A, A), eq(0))
        self.told(("eq", num(2), num(7)), eq(5))

    def test_not_at_most(self):
        self.told(("not", ("le", A, B)), le(-1, (B, 1), (A, -1)))
        self.told(("not", ("le", ("add", A, num(4)), ("mul", 2, B))), le(3, (B, 2), (A, -1)))
        self.told(("not", ("le", num(3), num(5))), le(-3))
        self.told(("not", ("le", num(5), num(3))), le(1))

    def test_no_other_saying(self):
        for saying in (("not", ("eq", A, B)), ("not", ("not", ("le", A, B))), ("not", ("and", ("le", A, B), ("le", A, B))),
                       ("not", ("or", ("le", A, B), ("le", A, B))), ("and", ("le", A, B), ("le", A, B)),
                       ("or", ("eq", A, B), ("eq", A, B)), ("all", NOUGHT, ONE, ("le", OWN, A)),
                       ("all", NOUGHT, ONE, ("eq", A, B))):
            self.assertIsNone(line_of(saying))

    def test_it_says_what_the_saying_says(self):
        chance = random.Random(11)
        for _ in range(500):
            saying = any_plain(chance, 4)
            table = {"a": chance.randrange(-4, 5), "b": chance.randrange(-4, 5), "r": (2, ((1, 3),)), "s": (0, ())}
            if line_of(saying) is not None:
                self.assertIs(is_so(line_of(saying), table), looked_by_hand(saying, table, {}, [])[0], saying)


class IsClosed(unittest.TestCase):
    def test_with_pairs(self):
        for line in (le(-1, (A, 1)), eq(5, (A, 1), (B, 2)), le(-10 ** 30, (A, 0))):
            self.assertIs(is_closed(line), False)

    def test_without(self):
        for n in (-10 ** 30, -2, -1, 0, 1, 2, 10 ** 30):
            self.assertIs(is_closed(le(n)), n < 0)
            self.assertIs(is_closed(eq(n)), n != 0)


class Made(unittest.TestCase):
    LINES = [le(3, (A, 2), (B, -4)), eq(-5, (B, 4), (C, 6)), le(-7, (A, -2)), eq(9), le(-1)]

    def told(self, lines, weights, divisor, due):
        with self.subTest((weights, divisor)):
            told = made(lines, weights, divisor=divisor)
            self.assertIsInstance(told, Line)
            self.assertEqual(told.kind, "le")
            self.assertEqual(told.number, due.number)
            self.assertEqual(sorted(told.pairs, key=repr), sorted(due.pairs, key=repr))

    def test_of_no_pair(self):
        for divisor in (1, 2, 10 ** 30):
            self.told(self.LINES, (), divisor, le(0))
            self.told([], (), divisor, le(0))

    def test_of_one_pair(self):
        self.told(self.LINES, ((0, 1),), 1, le(3, (A, 2), (B, -4)))
        self.told(self.LINES, ((0, 3),), 1, le(9, (A, 6), (B, -12)))
        self.told(self.LINES, ((0, 0),), 1, le(0))
        self.told(self.LINES, ((1, 1),), 1, le(-5, (B, 4), (C, 6)))
        self.told(self.LINES, ((1, -2),), 1, le(10, (B, -8), (C, -12)))
        self.told(self.LINES, ((1, 0),), 1, le(0))
        self.told(self.LINES, ((3, -1),), 1, le(-9))
        self.told(self.LINES, ((0, 10 ** 30),), 1, le(3 * 10 ** 30, (A, 2 * 10 ** 30), (B, -4 * 10 ** 30)))

    def test_the_divisor_is_one_where_none_is_handed_in(self):
        self.assertEqual(made(self.LINES, ((0, 1),)), self.LINES[0])

    def test_of_several_pairs(self):
        self.told(self.LINES, ((0, 1), (1, 1)), 1, le(-2, (A, 2), (C, 6)))
        self.told(self.LINES, ((1, 1), (0, 2), (2, 1)), 1, le(-6, (A, 2), (B, -4), (C, 6)))
        self.told(self.LINES, ((0, 1), (2, 1)), 1, le(-4, (B, -4)))

    def test_a_place_twice_is_added_up(self):
        self.told(self.LINES, ((0, 1), (0, 2)), 1, le(9, (A, 6), (B, -12)))
        self.told(self.LINES, ((1, 3), (0, 1), (1, -2)), 1, le(-2, (A, 2), (C, 6)))
        self.told(self.LINES, ((1, 3), (1, -3)), 1, le(0))

    def test_weights_that_come_to_nought_are_left_out(self):
        self.told([le(3, (A, 2)), le(-4, (A, -2))], ((0, 1), (1, 1)), 1, le(-1))
        self.told([le(3, (A, 1), (B, 5)), le(4, (A, -1))], ((0, 1), (1, 1)), 5, le(1, (B, 1)))
        self.told([le(4, (A, 1), (B, 0), (A, -1))], ((0, 1),), 9, le(0))

    def test_atoms_in_two_spellings(self):
        lines = [le(3, (ATOM, 2), (B, 1)), le(4, (SAME, 3))]
        told = made(lines, ((0, 1), (1, 1)))
        self.assertEqual((told.number, len(told)), (7, 2))
        self.assertIn(dict((weight, atom) for atom, weight in told.pairs)[5], (ATOM, SAME))
        self.assertEqual(told, le(7, (SAME, 5), (B, 1)))
        self.assertEqual(made([le(3, (ATOM, 2)), eq(4, (SAME, 2))], ((0, 1), (1, -1))), le(-1))
        self.assertEqual(made([le(0, (ATOM, 2), (SAME, 2))], ((0, 1),), divisor=4), le(0, (ATOM, 1)))

    def test_divisors(self):
        for n in range(-9, 10):
            self.told([le(n, (A, 4), (B, -6))], ((0, 1),), 2, le(n // 2, (A, 2), (B, -3)))
            self.told([eq(n, (A, 3))], ((0, -1),), 3, le(-n // 3, (A, -1)))
        self.told([le(-1, (A, 5))], ((0, 2),), 10, le(-1, (A, 1)))
        self.told([le(-1)], ((0, 1),), 100, le(-1))
        self.told([le(-7, (A, -10 ** 30))], ((0, 1),), 10 ** 30, le(-1, (A, -1)))

    def bad(self, place, lines, weights, divisor=1):
        with self.subTest((weights, divisor)):
            with self.assertRaises(BadLine) as caught:
                made(lines, weights, divisor=divisor)
            self.assertEqual(caught.exception.place, place)
            self.assertIs(type(caught.exception.place), int)

    def test_bad_pairs(self):
        for pair in ((5, 1), (-1, 1), (10 ** 30, 1), (0, -1), (2, -10 ** 30), (4, -1), (True, 1), (False, 1), (None, 1),
                     ("0", 1), ((0,), 1), (0, True), (0, False), (0, None), (0, "1"), (1, None), (1, True), (0,), (),
                     (0, 1, 1), [0, 1], None, 7, "01", (1, [1]), ([], 1)):
            for divisor in (1, 0, 7, None):
                self.bad(0, self.LINES, (pair,), divisor)
                self.bad(2, self.LINES, ((0, 1), (1, -1), pair, (3, 1)), divisor)
                self.bad(1, self.LINES, ((1, 0), pair, pair), divisor)
        self.bad(0, [], ((0, 1),))
        self.bad(0, [], ((0, 0),))

    def test_weights_that_are_no_tuple(self):
        for weights in ([], [(0, 1)], None, 7, "", "01", True):
            self.bad(0, self.LINES, weights)

    def test_bad_divisors(self):
        for divisor in (0, -1, -2, None, True, False, "1", (1,), [], 10 ** 30, 3, 4, -10 ** 30):
            self.bad(-1, self.LINES, ((0, 1),), divisor)
        for divisor in (0, -1, None, True, "1", ()):
            self.bad(-1, self.LINES, (), divisor)
            self.bad(-1, [], (), divisor)
            self.bad(-1, self.LINES, ((3, 1),), divisor)
        self.bad(-1, self.LINES, ((1, 1),), 4)
        self.bad(-1, self.LINES, ((1, 1),), 3)
        self.bad(-1, [le(0, (A, 4), (B, 6), (C, 5))], ((0, 1),), 2)

    def test_nothing_is_changed(self):
        lines = [le(3, (A, 2), (B, -4)), eq(-5, (B, 4), (C, 6))]
        weights = ((0, 1), (1, 2))
        before = copy.deepcopy([(line.kind, line.pairs, line.number) for line in lines])
        for _ in range(2):
            self.assertEqual(made(lines, weights, divisor=2), le(-4, (A, 1), (B, 2), (C, 6)))
        self.assertEqual([(line.kind, line.pairs, line.number) for line in lines], before)
        self.assertEqual(weights, ((0, 1), (1, 2)))
        self.assertIs(type(lines), list)

    def test_made_of_what_is_so_it_is_so(self):
        chance = random.Random(12)
        closed = 0
        for _ in range(400):
            table = {"a": chance.randrange(-9, 9), "b": chance.randrange(-9, 9), "r": (2, ((1, 3),)), "s": (0, ())}
            sayings = [(word, any_term(chance, 3), any_term(chance, 3)) for word in ("le", "eq", "le", "le", "eq")]
            lines = [line_of(saying) for saying in sayings]
            so = [line for line in lines if is_so(line, table)]
            weights = tuple((place, chance.randrange(0 if so[place].kind == "le" else -4, 5))
                            for place in [chance.randrange(len(so)) for _ in range(4)] if so) if so else ()
            for divisor in (1, 2, 3):
                try:
                    told = made(so, weights, divisor=divisor)
                except BadLine:
                    continue
                self.assertTrue(is_so(told, table))
                self.assertFalse(is_closed(told))
                closed += 1
        self.assertGreater(closed, 400)


def is_so(line, table):
    """Whether a line is so at a table."""
    worth = sum(weight * worth_by_hand(atom, table, {}, []) for atom, weight in line.pairs)
    return worth <= line.number if line.kind == "le" else worth == line.number


if __name__ == "__main__":
    unittest.main()
