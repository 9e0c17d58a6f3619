"""Leaps: goals tried out with worths."""

import unittest

from books import LOOSE, NO, NO_WORTH, NOT_KNOWN, TRI, YES, book_of, claim, work
from leapwork.errors import NoGoal, NoName, NoWorths
from leapwork.goals import goal_number, goals_of
from leapwork.leaps import leap
from leapwork.terms import letters_of
from leapwork.worths import truth_of
from samples import ANYTHING

BREAKS, SO = ("breaks",), ("so",)
ROW = (2, ((0, 5), (1, 3)))


class Leaps(unittest.TestCase):
    def told(self, book, look, worths, end, way=(), of="w"):
        """A leap of the goal of this look and way, the worths by their letters."""
        number = goal_number(book, of, look, way)
        letters = goals_of(book, of)[number][3]
        self.assertEqual(sorted(worths), sorted(letters))
        self.assertEqual(leap(book, of, number, tuple(worths[letter] for letter in letters)), end)

    def on_a(self, book, look, ends, way=(), of="w"):
        """Leaps of a goal with the letter a alone."""
        for a, end in ends.items():
            self.told(book, look, {("input", "a"): a}, end, way, of)


class Ends(Leaps):
    def test_spends(self):
        book = book_of(work(spends="(name a)", needs="(le (name a) (num 5)) (le (num -5) (name a))"))
        self.on_a(book, (0, "spends", 0), {-1: BREAKS, 0: SO, 5: SO, 6: ("astray", 0), -6: ("astray", 1)})
        self.told(book_of(work()), (0, "spends", 0), {}, SO)
        self.told(book_of(work(spends="(num -1)")), (0, "spends", 0), {}, BREAKS)

    def test_astray_at_each_place(self):
        block = f"(hold (le (name a) (num 6))) (if (le (name a) (num 5)) ((hold (le (name a) (num 4)))) ()) (hold (le (name a) (num 2))) (give (num 0))"
        book = book_of(work(needs="(le (name a) (num 8)) (le (name a) (num 7))", block=block, spends="(add (num 3) (mul -1 (name a)))"))
        self.on_a(book, (4, "hold", 0), {9: ("astray", 0), 8: ("astray", 1), 7: ("astray", 2), 4: ("astray", 2), 3: BREAKS, 2: SO}, (("then", 2),))
        book = book_of(work(needs="(le (name a) (num 8)) (le (name a) (num 7))", block=block))
        self.on_a(book, (4, "hold", 0), {9: ("astray", 0), 8: ("astray", 1), 7: ("astray", 3), 6: ("astray", 4), 5: ("astray", 5),
                                         4: BREAKS, 3: BREAKS, 2: SO}, (("then", 2),))
        self.on_a(book, (4, "hold", 0), {9: ("astray", 0), 7: ("astray", 3), 6: BREAKS, 5: ("astray", 4), 2: ("astray", 4)}, (("else", 2),))

    def test_passed_at_each_place(self):
        tri = "(le (notion tri ((add (name a) (num {})))) (num 999999))"
        block = f"(hold {tri.format(2)}) (if {YES} () ()) (hold {tri.format(1)}) (hold (le (name a) (num 390))) (give (num 0))"
        book = book_of(work(needs=tri.format(4), block=block, spends="(notion tri ((add (name a) (num 3))))"), TRI)
        self.on_a(book, (4, "hold", 0), {399: ("passed", 0), 396: ("passed", 0), 395: BREAKS, 390: SO}, (("then", 2),))
        book = book_of(work(block=block, spends="(notion tri ((add (name a) (num 3))))"), TRI)
        self.on_a(book, (4, "hold", 0), {399: ("passed", 0), 397: ("passed", 0), 396: BREAKS}, (("then", 2),))
        book = book_of(work(block=block), TRI)
        self.on_a(book, (3, "hold", 0), {398: ("passed", 1), 397: SO}, (("then", 2),))
        self.on_a(book, (4, "hold", 0), {399: ("passed", 1), 398: ("passed", 1), 397: BREAKS}, (("then", 2),))
        # The look itself, too.
        book = book_of(work(block=f"(hold {tri.format(0)}) (give (num 0))"), TRI)
        self.on_a(book, (1, "hold", 0), {399: SO, 400: ("passed", 1)})
        self.told(book_of(work(block=f"(hold {NOT_KNOWN}) (give (num 0))")), (1, "hold", 0), {}, ("passed", 1))
        self.on_a(book_of(work(block="(hold (le (notion loose ((name a))) (num 0))) (give (num 0))"), TRI, LOOSE),
                  (1, "hold", 0), {3: ("passed", 1)})

    def test_the_first_of_these(self):
        book = book_of(work(needs=f"(le (name a) (num 3)) {NOT_KNOWN} (le (name a) (num 2))", block=f"(hold {NO}) (give (num 0))"))
        self.on_a(book, (1, "hold", 0), {4: ("astray", 0), 3: ("passed", 1), 0: ("passed", 1)})

    def test_alls(self):
        hold = "(all (num 1) (name a) (le (read (row r) (name own)) (num 3)))"
        book = book_of(work(letters="(a number) (r row)", block=f"(hold {hold}) (hold (le (name a) (num 7))) (give (num 0))"))
        row = (9, ((0, 9), (2, 5), (4, 9)))
        for a, k, end in ((6, 2, BREAKS), (6, 4, BREAKS), (6, 3, SO), (6, 0, ("astray", 1)), (4, 4, ("astray", 2)), (5, 4, BREAKS),
                          (0, 2, ("astray", 2)), (0, 0, ("astray", 1))):
            self.told(book, (1, "hold", 0), {("input", "a"): a, ("input", "r"): row, ("fresh",): k}, end)
        # Supposed it is looked at from its first place on.
        for a, r, end in ((8, (9, ((0, 9),)), BREAKS), (8, row, ("astray", 1)), (7, (9, ()), SO), (402, (9, ()), ("passed", 1)), (401, (9, ()), BREAKS)):
            self.told(book, (2, "hold", 0), {("input", "a"): a, ("input", "r"): r}, end)

    def test_alls_whose_parts_have_no_worth(self):
        for hold, end in ((f"(all {NO_WORTH} (name a) {NO})", ("passed", 1)), (f"(all (num 0) (add (name a) {NO_WORTH}) {NO})", ("passed", 2)),
                          (f"(all (num 0) (name a) {NOT_KNOWN})", ("passed", 3))):
            book = book_of(work(block=f"(hold {hold}) (give (num 0))"))
            self.told(book, (1, "hold", 0), {("input", "a"): 5, ("fresh",): 3}, end)


class Looks(Leaps):
    """Goals of each look."""

    def test_place_and_room(self):
        book = book_of(work(letters="(a number) (r row)", own="(s row)", block="""
            (row s (room (read (row r) (name a)))) (put s (num 1) (num 4)) (give (read (row s) (name a)))"""))
        for look, ends in (((1, "place", 0), {2: BREAKS, -1: BREAKS, 1: SO}), ((1, "room", 0), {2: ("astray", 1), 1: SO, 0: BREAKS}),
                           ((2, "place", 0), {1: SO, 0: ("astray", 2)}), ((3, "place", 0), {1: SO, 0: ("astray", 2)})):
            for a, end in ends.items():
                self.told(book, look, {("input", "a"): a, ("input", "r"): (2, ((0, -2), (1, 3)))}, end)
        self.told(book, (2, "place", 0), {("input", "a"): 0, ("input", "r"): (1, ((0, 1),))}, BREAKS)

    def test_dos_are_not_gone_into(self):
        callee = work("v", needs="(le (name a) (num 5))", gives="(le (name a) (name given))", spends="(name a)", block=f"(hold {NO}) (give (num 0))")
        book = book_of(work(block="(do x v ((add (name a) (num 1)))) (hold (le (name x) (name left))) (give (num 0))"), callee)
        self.on_a(book, (1, "needs", 0), {5: BREAKS, 4: SO})
        self.on_a(book, (1, "left", 0), {5: ("astray", 1), 4: SO})
        self.told(book, (2, "hold", 0), {("input", "a"): 3, ("do", 1): 4}, SO)
        self.told(book, (2, "hold", 0), {("input", "a"): 3, ("do", 1): 5}, BREAKS)
        self.told(book, (2, "hold", 0), {("input", "a"): 3, ("do", 1): 3}, ("astray", 3))
        book["w"] = book_of(work(block="(do x v ((name a))) (give (num 0))", spends="(num 3)"))["w"]
        self.on_a(book, (1, "left", 0), {2: SO, 3: BREAKS})

    def test_uses_are_not_gone_into(self):
        callee = claim("d", needs="(le (name a) (num 5))", gives="(le (name a) (num 3))", spends="(name a)", block=f"(hold {NO})")
        book = book_of(claim(block="(use d ((name a))) (hold (le (name left) (num 5)))"), callee)
        self.on_a(book, (1, "needs", 0), {6: BREAKS, 5: SO}, of="c")
        self.on_a(book, (1, "left", 0), {6: ("astray", 1), 5: SO, -99: SO}, of="c")
        self.on_a(book, (2, "hold", 0), {6: ("astray", 1), 4: ("astray", 3), 3: SO, 2: BREAKS}, of="c")

    def test_whiles(self):
        block = "(set x (name a)) (while (le (name x) (num 3)) ((le (name x) (name a))) ((set x (add (name x) (num 1))))) (hold (le (name x) (num 4))) (give (num 0))"
        book = book_of(work(block=block))
        a, x, left = ("input", "a"), ("loop", 2, "x"), ("loop", 2, "left")
        self.on_a(book, (2, "keeps", 0), {5: SO})
        way = (("in", 2),)
        self.told(book, (2, "round", 0), {a: 3, x: 3, left: 0}, BREAKS, way)
        self.told(book, (2, "round", 0), {a: 3, x: 3, left: 1}, SO, way)
        self.told(book, (2, "round", 0), {a: 3, x: 4, left: 1}, ("astray", 2), way)
        self.told(book, (2, "round", 0), {a: 4, x: 4, left: 1}, ("astray", 3), way)
        self.told(book, (2, "again", 0), {a: 3, x: 3, left: 1}, BREAKS, way)
        self.told(book, (2, "again", 0), {a: 4, x: 3, left: 1}, SO, way)
        self.told(book, (2, "again", 0), {a: 4, x: 3, left: 0}, ("astray", 4), way)
        self.told(book, (4, "hold", 0), {a: 9, x: 5}, BREAKS, (("past", 2),))
        self.told(book, (4, "hold", 0), {a: 9, x: 4}, SO, (("past", 2),))
        self.told(book, (4, "hold", 0), {a: 9, x: 3}, ("astray", 3), (("past", 2),))

    def test_gives(self):
        book = book_of(work(gives="(le (name given) (num 7)) (le (name a) (name given))", block="(give (mul 2 (name a)))"))
        self.on_a(book, (1, "gives", 0), {4: BREAKS, 3: SO})
        self.on_a(book, (1, "gives", 1), {4: ("astray", 1), 3: SO, -1: BREAKS})
        self.on_a(book_of(claim(gives="(le (name a) (num 7))")), (1, "gives", 0), {8: BREAKS, 7: SO}, of="c")

    def test_letters_that_have_no_number_are_nought(self):
        # Nothing of what the bundle has hangs on them.
        callee = work("v", letters="", own="", spends="(num 0)")
        block = f"(do x v ()) (while {YES} () ((set y (name x)) (row s (row s)))) (hold (eq (name a) (num 3))) (give (num 0))"
        book = book_of(work(own="(x number) (y number) (s row)", block=block), callee)
        self.on_a(book, (5, "hold", 0), {3: ("astray", 2)}, (("past", 2),))
        book = book_of(work(own="(x number) (y number) (s row)", block=block.replace(YES, NO)), callee)
        self.on_a(book, (5, "hold", 0), {3: SO, 4: BREAKS}, (("past", 2),))

    def test_numbers_are_of_any_size(self):
        big = 10 ** 500
        book = book_of(work(letters="(a number) (r row)", block="(hold (le (name a) (size (row r)))) (give (num 0))"))
        places = tuple((place, 1) for place in range(-70, 70))
        for a, r, end in ((big, (big, places), SO), (big + 1, (big, ()), BREAKS)):
            self.told(book, (1, "hold", 0), {("input", "a"): a, ("input", "r"): r}, end)


class Longer(Leaps):
    """A look that is longer over the bundle than as it is laid."""

    def test_a_use_handed_a_notion(self):
        callee = claim(letters="(b number)", needs="(le (notion tri ((name b))) (num 999999))", gives="(le (name b) (num 200))")
        book = book_of(work(own="", block="(use c ((add (notion tri ((name a))) (num -1)))) (hold (le (name a) (num 19))) (give (num 0))"), callee, TRI)
        # At 27 the notion is at 378: its openings, and those behind, are too many for one look at the bundle.
        bundle = goals_of(book, "w")[1][2]
        notions = {"tri": book["tri"]}
        self.assertIsNone(truth_of(bundle[1], {0: 27}, notions))
        self.on_a(book, (1, "needs", 0), {27: SO, 28: ("passed", 1), 5: SO})
        self.on_a(book, (2, "hold", 0), {19: SO, 20: ("astray", 2), 5: SO})

    def test_left(self):
        callee = claim("d", letters="(b number)", spends="(notion tri ((num 200)))")
        book = book_of(claim(spends="(num 100000)", block="(use d ((num 0))) (use d ((num 0))) (use d ((num 0))) (hold (le (num 39697) (name left)))"),
                       callee, TRI)
        number = goal_number(book, "c", (4, "hold", 0), ())
        bundle = goals_of(book, "c")[number][2]
        self.assertEqual([truth_of(saying, {}, {"tri": book["tri"]}) for saying in bundle], [True, True, None, None, None])
        self.assertEqual(leap(book, "c", number, ()), SO)
        book = book_of(claim(spends="(num 100000)", block="(use d ((num 0))) (use d ((num 0))) (use d ((num 0))) (hold (le (num 39698) (name left)))"),
                       callee, TRI)
        self.assertEqual(leap(book, "c", number, ()), BREAKS)


class Refusals(Leaps):
    def setUp(self):
        self.book = book_of(work(letters="(a number) (r row)", own="(x number)",
                                 block="(set x (add (name x) (name x))) " * 34 + "(hold (le (name a) (size (row r)))) (hold (le (name x) (num 1))) (give (num 0))"),
                            claim(), TRI)
        self.number = goal_number(self.book, "w", (35, "hold", 0), ())

    def test_names(self):
        for thing in [*ANYTHING, "tri", "x"]:
            if not isinstance(thing, float):
                with self.assertRaises(NoName) as caught:
                    leap(self.book, thing, 0, ())
                self.assertEqual(caught.exception.name, thing)

    def test_numbers_that_are_none(self):
        great = goal_number(self.book, "w", (36, "hold", 0), ())
        many = len(goals_of(self.book, "w"))
        self.assertEqual((self.number, great, many), (1, 2, 3))
        for number in [*[thing for thing in ANYTHING if thing not in (0, 1) or isinstance(thing, bool)], -1, great, many, many + 1, True, "1"]:
            with self.assertRaises(NoGoal):
                leap(self.book, "w", number, (1, ROW))

    def test_worths_that_are_none(self):
        self.assertEqual(leap(self.book, "w", self.number, (1, ROW)), SO)
        for worths in [*ANYTHING, (), (1,), (ROW,), (ROW, 1), (1, ROW, 1), [1, ROW], (1, 1), (ROW, ROW), (True, ROW), (None, ROW), ("1", ROW),
                       (1, None), (1, [2, ()]), (1, ()), (1, (2,)), (1, (-1, ())), (1, (2, ((0, 0),))), (1, (2, ((1, 1), (0, 1)))), (1, (2, [(0, 1)])),
                       (1, (2, ((0, True),)))]:
            with self.assertRaises(NoWorths):
                leap(self.book, "w", self.number, worths)
        for worths in ((1,), None, [], 0):
            with self.assertRaises(NoWorths):
                leap(self.book, "c", 0, worths)
        self.assertEqual(leap(self.book, "c", 0, ()), SO)

    def test_several_at_once(self):
        with self.assertRaises(NoName):
            leap(self.book, "none", 99, None)
        with self.assertRaises(NoGoal):
            leap(self.book, "w", 99, None)
        with self.assertRaises(NoWorths):
            leap(self.book, "w", 1, None)

    def test_what_is_handed_in_stays(self):
        before = dict(self.book)
        worths = (1, ROW)
        leap(self.book, "w", self.number, worths)
        self.assertEqual((self.book, worths), (before, (1, (2, ((0, 5), (1, 3))))))
        kinds = {letter for saying in goals_of(self.book, "w")[1][2] for letter in letters_of(saying)}
        self.assertEqual(kinds, {(0, "number"), (1, "row")})


if __name__ == "__main__":
    unittest.main()
