"""Runs by code: looked-at as walked, bare without looks."""

import random
import unittest

import test_breaks
import test_calls
import test_uses
import test_walk
from any_books import any_book, any_inputs
from books import NO, NOT_KNOWN, TRI, YES, book_of, claim, work
from leapwork.machine import run_code
from leapwork.walk import walk
from runs_by_hand import bare_by_hand

BIG = 10 ** 200 - 1


def as_walked(told):
    """What a walk tells, a break without way and met."""
    end, ticks, passed = told
    return (end[:3] if end[0] == "break" else end), ticks, list(passed)


class Looked(unittest.TestCase):
    """All that the tests of walks run is run by code, too."""

    def test_as_the_walks_of_other_tests(self):
        seen = []

        def both(book, name, inputs=(), *, ticks=2000):
            told = walk(book, name, inputs, ticks=ticks)
            seen.append((run_code(book, name, inputs, ticks=ticks), as_walked(told)))
            return told
        for module in (test_walk, test_calls, test_uses, test_breaks):
            module.walk = both
            try:
                result = unittest.TestResult()
                unittest.defaultTestLoader.loadTestsFromModule(module).run(result)
                self.assertEqual(result.errors + result.failures, [])
            finally:
                module.walk = walk
        self.assertGreater(len(seen), 400)
        for told, due in seen:
            self.assertEqual(told, due)
        ends = {told[0][0] for told, _ in seen}
        self.assertEqual(ends, {"break", "stuck", "deep", "tired", "great", "unfit", "lost", "gave"})
        words = {told[0][2][1] for told, _ in seen if told[0][0] == "break"}
        self.assertEqual(words, {"spends", "place", "room", "needs", "left", "hold", "keeps", "again", "round", "gives"})

    def test_books_by_chance(self):
        for seed in range(4000, 4120):
            chance = random.Random(seed)
            book = any_book(chance)
            for name in sorted(book):
                for _ in range(3 if book[name][0] != "notion" else 0):
                    inputs = any_inputs(chance, book[name][2])
                    ticks = chance.choice((0, 1, 2, 5, 40, 300))
                    self.assertEqual(run_code(book, name, inputs, ticks=ticks), as_walked(walk(book, name, inputs, ticks=ticks)))
                    if book[name][0] == "work":
                        bare = run_code(book, name, inputs, ticks=ticks, looked=False)
                        self.assertEqual(bare, bare_by_hand(book, name, inputs, ticks))

    def test_break_without_way_and_met(self):
        book = book_of(work(block=f"(if {YES} ((hold {NO})) ()) (give (num 0))"), claim(block=f"(hold {NO})"))
        self.assertEqual(run_code(book, "w", (3,)), (("break", "w", (2, "hold", 0)), 0, []))
        self.assertEqual(run_code(book, "c", (3,)), (("break", "c", (1, "hold", 0)), 0, []))

    def test_looked_is_the_default(self):
        book = book_of(work(needs=NO))
        self.assertEqual(run_code(book, "w", (3,)), (("unfit", 0), 0, []))
        self.assertEqual(run_code(book, "w", (3,), looked=True), (("unfit", 0), 0, []))

    def test_passed_is_a_new_list(self):
        book = book_of(work(needs=NOT_KNOWN))
        one = run_code(book, "w", (3,))
        self.assertEqual(one[2], [("w", (0, "needs", 0))])
        one[2].clear()
        self.assertEqual(run_code(book, "w", (3,))[2], [("w", (0, "needs", 0))])


class Bare(unittest.TestCase):
    def told(self, book, inputs, end, ticks=0, handed=2000):
        self.assertEqual(run_code(book, "w", inputs, ticks=handed, looked=False), (end, ticks, []))

    def test_no_needs_looks_uses_and_left(self):
        book = book_of(
            work(needs=f"{NO} {NOT_KNOWN}", gives=f"{NO} {NOT_KNOWN}", spends="(num -1)", block=f"""
                (hold {NO}) (hold {NOT_KNOWN}) (use c ((num 1))) (use none ()) (do x v ((name a)))
                (while (le (name y) (num 2)) ({NO}) ((set y (add (name y) (num 1))))) (give (add (name x) (name y)))"""),
            work("v", needs=NO, gives=NO, spends="(num 999)", block="(give (mul 10 (name a)))"), claim(needs=NO, block=f"(hold {NO})"))
        self.told(book, (4,), ("gave", 43), 4)

    def test_puts_and_reads_beyond_the_ends_are_done(self):
        parts = {"letters": "(a number) (r row)", "own": "(s row) (x number)"}
        book = book_of(work(block="(put s (name a) (num 7)) (set x (read (row s) (name a))) (give (add (name x) (read (row r) (name a))))", **parts))
        for a in (0, -1, 5, 10 ** 150, BIG):
            self.told(book, (a, (2, ((-1, 50), (5, 80)))), ("gave", 7 + {-1: 50, 5: 80}.get(a, 0)))
        book = book_of(work(block="(put s (name a) (num 7)) (put s (num -3) (name a)) (give (row s))", result="row", **parts))
        self.told(book, (4, (0, ())), ("gave", (0, ((-3, 4), (4, 7)))))
        # Their places aren't asked, however great they are.
        book = book_of(work(block="(put s (mul 1000 (name a)) (num 7)) (give (read (row s) (mul 1000 (name a))))", **parts))
        self.told(book, (BIG, (0, ())), ("gave", 7))

    def test_a_room_below_nought_is_of_size_nought(self):
        book = book_of(work(own="(s row)", block="(row s (room (name a))) (give (size (row s)))"))
        for a, end in ((-1, ("gave", 0)), (-BIG, ("gave", 0)), (10 ** 6, ("gave", 10 ** 6)), (10 ** 6 + 1, ("great",))):
            self.told(book, (a,), end)

    def test_great(self):
        for block, many in (("(set x (mul 10 (name a))) (give (num 0))", 0), ("(put s (num 0) (mul -10 (name a))) (give (num 0))", 0),
                            ("(do x v ((mul 10 (name a)))) (give (num 0))", 1), ("(give (mul 10 (name a)))", 0)):
            book = book_of(work(own="(x number) (s row)", block=block), work("v"))
            self.told(book, (BIG,), ("great",), many)
            self.assertEqual(run_code(book, "w", (BIG // 10,), looked=False)[0][0], "gave")

    def test_stuck_deep_and_tired(self):
        self.told(book_of(work(block="(do x none ()) (give (num 0))")), (0,), ("stuck", "none"), 0, 0)
        down = "(if (le (name a) (num 0)) ((give (num 0))) ()) (do x w ((add (name a) (num -1)))) (give (add (name x) (name a)))"
        book = book_of(work(block=down, needs=NO))
        self.told(book, (19,), ("gave", 190), 19)
        self.told(book, (20,), ("deep",), 19)
        self.told(book, (20,), ("deep",), 19, 19)
        self.told(book, (20,), ("tired",), 18, 18)
        block = "(while (le (name x) (num 9)) () ((set x (add (name x) (num 1))))) (give (name x))"
        for ticks, end in ((10, ("gave", 10)), (9, ("tired",)), (0, ("tired",))):
            self.told(book_of(work(block=block)), (0,), end, ticks, ticks)
        # Behind its places stuck, then deep, then tired, then great.
        self.told(book_of(work(block="(do x v ((mul 10 (name a)))) (give (num 0))"), work("v")), (BIG,), ("tired",), 0, 0)

    def test_where_no_look_breaks_all_three_tell_alike(self):
        book = book_of(work(letters="(r row)", spends="(size (row r))", gives=YES, block="""
            (while (le (add (name y) (num 1)) (size (row r))) ((le (num 0) (name y)))
              ((set x (add (name x) (read (row r) (name y)))) (set y (add (name y) (num 1))))) (give (name x))"""), TRI)
        row = (4, ((1, 5), (3, -2)))
        told = (("gave", 3), 4, [])
        self.assertEqual([walk(book, "w", (row,)), run_code(book, "w", (row,)), run_code(book, "w", (row,), looked=False)], [told] * 3)


if __name__ == "__main__":
    unittest.main()
