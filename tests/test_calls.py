"""Dos: one within another, and how they end a run; what is too great."""

import unittest

from books import NO, NOT_KNOWN, TRI, YES, book_of, claim, work
from leapwork.walk import walk

BIG = 10 ** 200 - 1
# Two hundred figures and one more.
BEYOND = 10 ** 200
DOWN = """(if (le (name a) (num 0)) ((give (num 0))) ()) (do x w ((add (name a) (num -1)))) (give (add (name x) (name a)))"""
LOOP = "(while (le (name x) (num 9)) () ((set x (add (name x) (num 1))))) (give (num 0))"


class Calls(unittest.TestCase):
    def told(self, book, inputs, end, ticks=None, handed=2000, passed=()):
        told = walk(book, "w", inputs, ticks=handed)
        self.assertEqual(told, (end, told[1] if ticks is None else ticks, list(passed)))

    def at(self, book, inputs, look, ticks=None, handed=2000, owner="w"):
        end, begun, _ = walk(book, "w", inputs, ticks=handed)
        self.assertEqual(end[:3], ("break", owner, look))
        if ticks is not None:
            self.assertEqual(begun, ticks)


class Dos(Calls):
    def test_within_one_another(self):
        book = book_of(work(block="(do x v ((add (name a) (num 1)) (name a))) (give (mul 10 (name x)))", spends="(num 40)"),
                       work("v", letters="(a number) (b number)", spends="(num 20)",
                            block="(do y u ((name b))) (do x u ((name a))) (give (add (name x) (mul 100 (name y))))"),
                       work("u", block="(give (mul 2 (name a)))"))
        self.told(book, (3,), ("gave", 6080), 3)

    def test_by_itself(self):
        for a, worth in ((0, 0), (1, 1), (5, 15), (19, 190)):
            self.told(book_of(work(block=DOWN, spends="(mul 2000 (name a))")), (a,), ("gave", worth), a)

    def test_rows_are_handed_and_given(self):
        book = book_of(work(letters="(r row)", own="(s row) (t row)", result="row", spends="(num 20)",
                            block="(row s (row r)) (do t v ((row s) (num 7))) (put t (num 1) (size (row s))) (give (row t))"),
                       work("v", letters="(s row) (a number)", own="(r row)", result="row",
                            block="(row r (row s)) (put r (num 0) (name a)) (give (row r))"))
        self.told(book, ((2, ((0, 1), (1, 2))),), ("gave", (2, ((0, 7), (1, 2)))), 1)

    def test_the_callees_letters_are_its_own(self):
        book = book_of(work(block="(set x (num 5)) (do y v ((name x))) (give (add (name x) (mul 100 (name y))))", spends="(num 20)"),
                       work("v", block="(set y (add (name y) (num 1))) (set x (name y)) (give (name x))"))
        self.told(book, (0,), ("gave", 105), 1)

    def test_needs_without_a_worth(self):
        book = book_of(work(block="(do x v ((num 1))) (give (num 2))", spends="(num 20)"), work("v", needs=f"{YES} {NOT_KNOWN}"))
        self.told(book, (0,), ("gave", 2), 1, passed=[("w", (1, "needs", 1))])


class Stuck(Calls):
    CALLS = ("(do x v ((num 1)))", "(do x v ())", "(do x v ((num 1) (num 1)))", "(do x v ((row r)))", "(do t v ((num 1)))")

    def test_absent_ones_and_those_that_do_not_fit(self):
        fitting = work("v")
        for call, callee in ((self.CALLS[0], None), (self.CALLS[0], claim("v")), (self.CALLS[0], TRI.replace("tri", "v")),
                             (self.CALLS[1], fitting), (self.CALLS[2], fitting), (self.CALLS[3], fitting), (self.CALLS[4], fitting),
                             (self.CALLS[0], work("v", letters="(r row)", own="", block="(give (num 0))")),
                             (self.CALLS[0], work("v", own="(r row)", result="row", block="(give (row r))"))):
            text = work(letters="(a number) (r row)", own="(x number) (t row)", block=f"{call} (give (num 0))")
            book = book_of(text, *([callee] if callee else []))
            self.told(book, (0, (0, ())), ("stuck", "v"), 0)

    def test_behind_its_places_and_ahead_of_all_else(self):
        text = work(letters="(a number) (r row)", own="(x number)",
                    block="(do x v ((read (row r) (num 0)) (num 1))) (give (num 0))", spends="(num 0)")
        book = book_of(text, work("v", needs=NO))
        self.at(book, (0, (0, ())), (1, "place", 0))
        self.told(book, (0, (1, ())), ("stuck", "v"), 0, handed=0)

    def test_in_a_callee(self):
        book = book_of(work(block="(do x v ((num 1))) (give (num 0))", spends="(num 20)"), work("v", block="(do x none ()) (give (num 0))"))
        self.told(book, (0,), ("stuck", "none"), 1)


class Deep(Calls):
    def test_the_twenty_first_frame(self):
        book = book_of(work(block=DOWN, spends="(mul 2000 (name a))"))
        self.told(book, (19,), ("gave", 190), 19)
        self.told(book, (20,), ("deep",), 19)
        # A frame that has given is under way no more.
        block = "(while (le (name x) (num 30)) () ((do y v ((num 0))) (set x (add (name x) (num 1))))) (give (num 4))"
        self.told(book_of(work(block=block, spends="(num 2000)"), work("v")), (0,), ("gave", 4), 62)

    def test_behind_the_needs(self):
        book = book_of(work(block=DOWN, spends="(mul 2000 (name a))", needs="(not (eq (name a) (num 1)))"))
        self.at(book, (20,), (3, "needs", 0), 18)
        # The need that isn't so would be that of the twenty-first frame.
        self.at(book, (21,), (3, "needs", 0), 19)
        self.told(book, (22,), ("deep",), 19)

    def test_ahead_of_tired_and_of_left(self):
        book = book_of(work(block=DOWN, spends="(mul 2000 (name a))"))
        self.told(book, (20,), ("deep",), 19, handed=19)
        self.told(book, (20,), ("tired",), 18, handed=18)
        # At a 1 nothing would be left.
        spends = "(mul 30 (add (name a) (num -1)))"
        self.told(book_of(work(block=DOWN, spends=spends)), (21,), ("deep",), 19)
        self.told(book_of(work(block=DOWN.replace("(le (name a) (num 0))", "(le (name a) (num -9))"), spends="(mul 99 (name a))")),
                  (19,), ("deep",), 19)

    def test_claims_do_not_count(self):
        block = DOWN.replace("(do x", "(use c ((num 3))) (do x")
        down = "(if (le (name a) (num 0)) () ((use c ((add (name a) (num -1))))))"
        book = book_of(work(block=block, spends="(mul 2000 (name a))"), claim(block=down, spends="(mul 9 (name a))"))
        self.told(book, (19,), ("gave", 190), 19)


class Tired(Calls):
    def test_rounds(self):
        book = book_of(work(block=LOOP, spends="(num 10)"))
        self.told(book, (0,), ("gave", 0), 10, handed=10)
        self.told(book, (0,), ("tired",), 9, handed=9)
        self.told(book, (0,), ("tired",), 0, handed=0)

    def test_dos(self):
        book = book_of(work(block="(do x v ((num 0))) (do x v ((num 0))) (give (num 3))", spends="(num 40)"), work("v"))
        for handed, end, ticks in ((0, ("tired",), 0), (1, ("tired",), 1), (2, ("gave", 3), 2)):
            self.told(book, (0,), end, ticks, handed=handed)

    def test_a_callees_ticks_are_the_runs(self):
        book = book_of(work(block="(do x v ((num 0))) (do x v ((num 0))) (give (num 3))", spends="(num 80)"),
                       work("v", block=LOOP, spends="(num 10)"))
        for handed, end, ticks in ((22, ("gave", 3), 22), (21, ("tired",), 21), (11, ("tired",), 11), (10, ("tired",), 10)):
            self.told(book, (0,), end, ticks, handed=handed)

    def test_behind_the_needs_and_ahead_of_left(self):
        text = work(block="(do x v ((name a))) (give (num 3))", spends="(num 0)")
        book = book_of(text, work("v", needs="(le (num 0) (name a))"))
        self.at(book, (-1,), (1, "needs", 0), 0, handed=0)
        self.told(book, (0,), ("tired",), 0, handed=0)
        self.at(book, (0,), (1, "left", 0), 1, handed=1)

    def test_a_run_without_ticks(self):
        self.told(book_of(work(block="(give (name a))")), (5,), ("gave", 5), 0, handed=0)

    def test_two_thousand(self):
        book = book_of(work(block=LOOP.replace("(num 9)", "(name a)"), spends="(num 3000)"))
        self.told(book, (1999,), ("gave", 0), 2000)
        self.told(book, (2000,), ("tired",), 2000)

    def test_a_use_has_no_tick_where_a_work_is_asked_for(self):
        book = book_of(work(block="(use c ((num 5))) (give (num 3))", spends="(num 0)"),
                       claim(block="(use d ((num 5)))", spends="(num 20)"), claim("d"))
        self.told(book, (0,), ("gave", 3), 0, handed=0)


class Great(Calls):
    def test_set(self):
        for a, end in ((BIG - 1, ("gave", 0)), (BIG, ("great",))):
            self.told(book_of(work(block="(set x (add (name a) (num 1))) (give (num 0))")), (a,), end, 0)
            self.told(book_of(work(block="(set x (add (mul -1 (name a)) (num -1))) (give (num 0))")), (a,), end, 0)

    def test_put(self):
        parts = {"own": "(s row)", "letters": "(a number) (b number)"}
        block = "(row s (room (num 1))) (put s (name b) (mul 10 (name a))) (give (num 0))"
        for a, end in ((BIG // 10, ("gave", 0)), (BIG // 10 + 1, ("great",)), (-(BIG // 10) - 1, ("great",))):
            self.told(book_of(work(block=block, **parts)), (a, 0), end, 0)
        self.at(book_of(work(block=block, **parts)), (BIG, 1), (2, "place", 0))

    def test_room(self):
        parts = {"own": "(s row)"}
        block = "(row s (room (name a))) (give (size (row s)))"
        for a, end in ((10 ** 6, ("gave", 10 ** 6)), (10 ** 6 + 1, ("great",)), (BIG, ("great",))):
            self.told(book_of(work(block=block, **parts)), (a,), end, 0)
        self.at(book_of(work(block=block, **parts)), (-BIG,), (1, "room", 0))
        # A row that is handed in may be as great as that.
        self.told(book_of(work(letters="(r row)", own="(s row)", block="(row s (row r)) (give (size (row s)))")),
                  ((10 ** 6, ()),), ("gave", 10 ** 6), 0)

    def test_do(self):
        text = work(block="(do x v ((num 0) (mul -10 (name a)))) (give (num 3))", spends="(name a)")
        callee = work("v", letters="(b number) (a number)", needs="(le (name a) (num 0))", spends="(num 1)")
        self.told(book_of(text, callee), (BIG // 10,), ("gave", 3), 1)
        self.told(book_of(text, callee), (BIG // 10 + 1,), ("great",), 1)
        self.told(book_of(text, callee), (BIG // 10 + 1,), ("tired",), 0, handed=0)
        # Behind the needs and what is left, ahead of the callee's begin.
        self.at(book_of(text, callee.replace("(le (name a) (num 0))", "(le (num 0) (name a))")), (BIG,), (1, "needs", 0), 0)
        book = book_of(work(block="(do x v ((num 0) (mul -10 (name a)))) (give (num 3))", spends="(num 1)"), callee)
        self.at(book, (BIG,), (1, "left", 0), 1)
        book = book_of(text, callee.replace("(num 1)", "(num -1)"))
        self.told(book, (BIG,), ("great",), 1)
        self.at(book, (5,), (0, "spends", 0), 1, owner="v")

    def test_give(self):
        text = work(block="(give (mul 10 (name a)))", gives="(le (num 0) (name given))")
        self.told(book_of(text), (BIG // 10,), ("gave", BIG // 10 * 10), 0)
        self.told(book_of(text), (BIG // 10 + 1,), ("great",), 0)
        # Behind the places, ahead of the gives.
        self.told(book_of(text), (-BIG,), ("great",), 0)
        self.at(book_of(text), (-1,), (1, "gives", 0))
        text = work(letters="(a number) (r row)", block="(give (add (read (row r) (num 0)) (mul 10 (name a))))")
        self.at(book_of(text), (BIG, (0, ())), (1, "place", 0))
        self.told(book_of(text), (BIG, (1, ())), ("great",), 0)

    def test_what_is_only_reckoned_may_be_greater(self):
        block = "(if (le (mul 1000 (name a)) (num 0)) ((give (num 1))) ()) (hold (le (num 0) (mul 1000 (name a)))) (give (num 0))"
        self.told(book_of(work(block=block)), (BIG,), ("gave", 0), 0)
        book = book_of(work(block="(use c ((mul 1000 (name a)))) (give (num 0))"), claim(block=f"(hold (le (num {10 ** 29}) (name a)))"))
        self.told(book, (BIG,), ("gave", 0), 0)

    def test_in_a_loop(self):
        block = "(set x (num 1)) (while (le (num 0) (name x)) () ((set x (mul 10 (name x))))) (give (num 0))"
        self.told(book_of(work(block=block, spends="(num 2000)")), (0,), ("great",), 200)


if __name__ == "__main__":
    unittest.main()
