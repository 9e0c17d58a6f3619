import copy
import random
import unittest

from leapwork.errors import NoWriting
from leapwork.texts import fault
from leapwork.writing import read, shown
from samples import nested
from sample_texts import CLAIM, FULL, NOTION, ROW_WORK, claim, notion, work

BIG = 10 ** 30 - 1
WHOLE = "(work a -12 () (b 0))"


class ThereAndBack(unittest.TestCase):
    def told(self, thing, writing):
        before = copy.deepcopy(thing)
        self.assertEqual(shown(thing), writing)
        self.assertEqual(read(writing), thing)
        self.assertEqual(repr(read(writing)), repr(thing))
        self.assertEqual(thing, before)

    def test_writings(self):
        self.told((), "()")
        self.told(("num", 1), "(num 1)")
        self.told(("num", 0), "(num 0)")
        self.told(("num", -7), "(num -7)")
        self.told(((), ((),), ()), "(() (()) ())")
        self.told(("a",), "(a)")
        self.told((5,), "(5)")
        self.told(("le", ("name", "a"), ("mul", -10, ("name", "b"))), "(le (name a) (mul -10 (name b)))")
        self.told(claim(), "(claim c ((a number) (r row)) () () (num 0) ())")
        self.told(work(), "(work w ((a number) (r row)) ((x number) (s row)) number () () (num 0) ((give (num 0))))")
        self.told(notion(), "(notion f 0 ((r row) (n number)) (num 0) (num 0))")

    def test_every_kind_of_text(self):
        for text in (FULL, CLAIM, NOTION, ROW_WORK, work(), claim(), notion()):
            self.assertIsNone(fault(text))
            self.assertEqual(read(shown(text)), text)
            self.assertEqual(shown(read(shown(text))), shown(text))

    def test_what_is_no_text(self):
        self.told(("left", "given", "own", "abcdefgh", -1, 10, 100, 2000), "(left given own abcdefgh -1 10 100 2000)")
        self.told((BIG, -BIG, 10 ** 29), f"({BIG} -{BIG} {10 ** 29})")
        self.told(nested((), 39), "(" * 40 + ")" * 40)
        self.told(nested("a", 40), "(" * 40 + "a" + ")" * 40)
        self.told((nested(1, 39), nested(2, 39), 3), "(" + "(" * 39 + "1" + ")" * 39 + " " + "(" * 39 + "2" + ")" * 39 + " 3)")

    def test_by_chance(self):
        chance = random.Random(19)

        def any_thing(deep):
            if deep and chance.random() < 0.6:
                return tuple(any_thing(deep - 1) for _ in range(chance.randrange(5)))
            if chance.random() < 0.5:
                return "".join(chance.choice("abcxyz") for _ in range(chance.randrange(1, 9)))
            return chance.choice((0, 1, -1, 90, -305, chance.randrange(-BIG, BIG)))
        for _ in range(300):
            thing = (any_thing(5), any_thing(3))
            self.assertEqual(read(shown(thing)), thing)


class NoWritings(unittest.TestCase):
    def wrong(self, writing, place):
        with self.assertRaises(NoWriting) as caught:
            read(writing)
        self.assertEqual((writing, caught.exception.place), (writing, place))
        self.assertIs(type(caught.exception.place), int)

    def test_nothing_at_all(self):
        self.wrong("", 0)
        for thing in (None, 5, (), ("num", 1), [], ["("], True):
            self.wrong(thing, 0)

    def test_what_ends_too_early(self):
        for many in range(len(WHOLE)):
            self.wrong(WHOLE[:many], many)
        self.assertEqual(read(WHOLE), ("work", "a", -12, (), ("b", 0)))

    def test_the_whole_is_a_tuple(self):
        for writing in ("a", "0", "-1", ")", " ", "a b", " ()", "num 1", "-", "\n()", ")(", " (", "a("):
            self.wrong(writing, 0)

    def test_behind_the_whole_nothing(self):
        for writing in ("()", "(a)", "((1) 2)"):
            for more in (" ", "(", ")", "()", "a", "1", "-", "\n", " ()", "\u00e9"):
                self.wrong(writing + more, len(writing))

    def test_blanks(self):
        self.wrong("( a)", 1)
        self.wrong("( )", 1)
        self.wrong("(a )", 3)
        self.wrong("(a  b)", 3)
        self.wrong("(() )", 4)
        self.wrong("(a\tb)", 2)
        self.wrong("(a\nb)", 2)
        self.wrong("(a,b)", 2)

    def test_one_blank_between_the_parts(self):
        self.wrong("(a(b))", 2)
        self.wrong("((a)(b))", 4)
        self.wrong("((a)b)", 4)
        self.wrong("((a)1)", 4)
        self.wrong("(1(b))", 2)
        self.wrong("(1a)", 2)
        self.wrong("(a1)", 2)
        self.wrong("(a-1)", 2)
        self.wrong("(1-1)", 2)
        self.wrong("(1 -1-)", 5)

    def test_numbers(self):
        self.wrong("(00)", 2)
        self.wrong("(01)", 2)
        self.wrong("(-0)", 2)
        self.wrong("(-01)", 2)
        self.wrong("(-)", 2)
        self.wrong("(--1)", 2)
        self.wrong("(- 1)", 2)
        self.wrong("(-a)", 2)
        self.wrong("(+1)", 1)
        self.wrong("(1.5)", 2)
        self.wrong("(1_0)", 2)
        self.wrong("(0x1)", 2)
        self.wrong("(\u0661)", 1)
        self.wrong("(1\u0661)", 2)
        self.wrong("(a -", 4)

    def test_thirty_figures_at_most(self):
        self.assertEqual(read(f"({BIG} -{BIG})"), (BIG, -BIG))
        self.wrong(f"({BIG + 1})", 31)
        self.wrong(f"(-{BIG + 1})", 32)
        self.wrong("(1 " + "9" * 40 + ")", 33)
        self.wrong("(" + "9" * 31, 31)

    def test_words(self):
        self.assertEqual(read("(abcdefgh)"), ("abcdefgh",))
        self.wrong("(abcdefghi)", 9)
        self.wrong("(a abcdefghijk)", 11)
        for sign in "A_.'\"[]{}#\u00e9\u0430;:,":
            self.wrong(f"({sign})", 1)
            self.wrong(f"(ab{sign})", 3)
            self.wrong(f"(a {sign}", 3)

    def test_forty_brackets_open_at_once(self):
        self.wrong("(" * 41 + ")" * 41, 40)
        self.wrong("(" * 41, 40)
        self.wrong("(" * 40, 40)
        self.wrong("(a " + "(" * 39 + ")" * 39 + " " + "(" * 40, 3 + 78 + 1 + 39)

    def test_the_first_sign_that_can_not_stand_there(self):
        self.wrong("(a ?) )", 3)
        self.wrong("(a b)c?", 5)
        self.wrong("(00 abcdefghijk", 2)


if __name__ == "__main__":
    unittest.main()
