"""Claims asked for and used: what breaks in them, what is lost, and what is passed over."""

import unittest

from books import LOOSE, NO, NOT_KNOWN, NO_WORTH, TRI, YES, book_of, claim, work
from leapwork.walk import walk

# A claim that uses itself so often, one within another.
DOWN = claim(block="(if (le (name a) (num 0)) () ((use c ((add (name a) (num -1))))))", spends="(mul 2000 (name a))",
             needs="(le (num 0) (name a))")
USE = (2, "use", 0)


class Uses(unittest.TestCase):
    def told(self, book, name, inputs, end, ticks, passed=(), handed=2000):
        self.assertEqual(walk(book, name, inputs, ticks=handed), (end, ticks, list(passed)))

    def at(self, book, name, inputs, owner, look, ticks=None):
        end, begun, passed = walk(book, name, inputs)
        self.assertEqual((end[:3], passed), (("break", owner, look), []))
        if ticks is not None:
            self.assertEqual(begun, ticks)


class Breaks(Uses):
    def test_a_used_claims_breaks_are_its_own(self):
        user = work(block="(use c ((name a))) (give (num 0))")
        middle = claim(block="(use d ((name a)))", spends="(num 40)")
        for callee, look in ((claim("d", block="(hold (le (name a) (num 3)))"), (1, "hold", 0)),
                             (claim("d", gives="(le (name a) (num 3))"), (1, "gives", 0)),
                             (claim("d", spends="(add (num 3) (mul -1 (name a)))"), (0, "spends", 0))):
            book = book_of(user, middle, callee)
            self.told(book, "w", (3,), ("gave", 0), 0)
            self.told(book, "c", (3,), ("gave", None), 1)
            for name in ("w", "c", "d"):
                self.at(book, name, (4,), "d", look)

    def test_what_a_use_needs_is_the_callers(self):
        book = book_of(work(block="(use c ((name a))) (give (num 0))"), claim(block="(use d ((add (name a) (num 1))))", spends="(num 40)"),
                       claim("d", needs="(le (name a) (num 3))"))
        self.at(book, "w", (3,), "c", (1, "needs", 0), 0)
        self.at(book, "c", (3,), "c", (1, "needs", 0), 0)
        self.assertEqual(walk(book, "d", (4,)), (("unfit", 0), 0, []))

    def test_all_kinds_of_places(self):
        book = book_of(work(letters="(r row)", own="(x number)", block="""(use c ((add (name x) (notion tri ((num 3)))) (with (row r) (num 5) (num 8))))
                            (use c ((read (row r) (num 77)) (room (num 4)))) (give (num 0))"""),
                       claim(letters="(a number) (s row)", gives="(eq (name a) (mul 2 (size (row s))))"), TRI)
        self.at(book, "w", ((3, ()),), "c", (1, "gives", 0))
        book["c"] = book_of(claim(letters="(a number) (s row)", gives="(le (mul 2 (size (row s))) (add (name a) (num 8)))"))["c"]
        self.told(book, "w", ((3, ()),), ("gave", 0), 0)

    def test_what_is_left_is_the_callers(self):
        for a in (0, -1):
            book = book_of(claim(block="(use d ((num 4)))", spends="(add (num 5) (name a))"), claim("d", spends="(name a)"))
            if a == 0:
                self.told(book, "c", (a,), ("gave", None), 1)
            else:
                self.at(book, "c", (a,), "c", (1, "left", 0), 1)

    def test_needs_without_a_worth(self):
        book = book_of(work(block="(use c ((name a))) (give (num 0))"), claim(needs=f"{YES} {NOT_KNOWN}"))
        self.told(book, "w", (3,), ("gave", 0), 0, [("w", (1, "needs", 1))])


class Ticks(Uses):
    def test_a_use_has_a_tick_where_a_claim_is_asked_for(self):
        book = book_of(claim(block="(use d ((num 1))) (use d ((num 1)))", spends="(num 80)"),
                       claim("d", block="(use e ((num 1)))", spends="(num 20)"), claim("e"))
        for handed in (0, 1, 2, 3):
            self.told(book, "c", (0,), ("tired",), handed, (), handed)
        self.told(book, "c", (0,), ("gave", None), 4, (), 4)

    def test_behind_the_needs_and_ahead_of_left(self):
        book = book_of(claim(block="(use d ((name a)))", spends="(num 0)"), claim("d", needs="(le (num 0) (name a))"))
        self.assertEqual(walk(book, "c", (-1,), ticks=0)[0][:3], ("break", "c", (1, "needs", 0)))
        self.told(book, "c", (0,), ("tired",), 0, (), 0)
        self.at(book, "c", (0,), "c", (1, "left", 0), 1)

    def test_what_is_passed_over_at_its_claim_or_places_has_none(self):
        book = book_of(claim(block=f"(use none ((num 1))) (use d ({NO_WORTH})) (hold (eq (name left) (num 9)))"), claim("d", needs=NO))
        self.told(book, "c", (0,), ("gave", None), 0, [("c", (1, "use", 0)), ("c", (2, "use", 0))], 0)


class PassedOver(Uses):
    def test_absent_claims_and_those_that_do_not_fit(self):
        for call, callee in (("(use d ((num 1)))", None), ("(use d ((num 1)))", work("d")), ("(use d ((num 1)))", TRI.replace("tri", "d")),
                             ("(use d ())", claim("d")), ("(use d ((num 1) (num 1)))", claim("d")), ("(use d ((row r)))", claim("d")),
                             ("(use d ((num 1)))", claim("d", letters="(r row)"))):
            more = [callee] if callee else []
            book = book_of(work(letters="(r row)", own="", block=f"{call} (give (num 5))"), claim(letters="(r row)", block=call), *more)
            self.told(book, "w", ((0, ()),), ("gave", 5), 0, [("w", (1, "use", 0))])
            self.told(book, "c", ((0, ()),), ("gave", None), 0, [("c", (1, "use", 0))])

    def test_places_without_a_worth(self):
        for place in (NO_WORTH, "(notion loose ((num 1)))", "(notion tri ((num 400)))", "(add (num 1) (notion tri ((row r))))"):
            book = book_of(work(letters="(r row)", own="", block=f"(use c ((num 0) {place})) (give (num 5))"),
                           claim(letters="(b number) (a number)", needs=NO), TRI, LOOSE)
            self.told(book, "w", ((0, ()),), ("gave", 5), 0, [("w", (1, "use", 0))])
        book = book_of(work(letters="(r row)", own="", block=f"(use c ((num 0) (with (row r) {NO_WORTH} (num 1)))) (give (num 5))"),
                       claim(letters="(b number) (s row)", needs=NO))
        self.told(book, "w", ((0, ()),), ("gave", 5), 0, [("w", (1, "use", 0))])

    def test_guards_without_a_worth(self):
        inner = claim("d", block=f"(hold {YES}) (if {NOT_KNOWN} ((hold {NO})) ((hold {NO}))) (hold {NO})", gives=NO)
        book = book_of(work(block="(hold (le (num 0) (num 0))) (use d ((num 0))) (hold (le (num 0) (num 0))) (give (num 5))"),
                       claim(block="(use d ((num 0))) (hold (eq (name left) (num 5)))", spends="(num 15)"), inner)
        self.told(book, "w", (0,), ("gave", 5), 0, [("w", (2, "use", 0))])
        # It was begun, so it has its tick and its cost.
        self.told(book, "c", (0,), ("gave", None), 1, [("c", (1, "use", 0))])

    def test_a_guard_that_has_no_worth_in_some_runs(self):
        inner = claim("d", block="(if (le (notion tri ((name a))) (num 3)) ((hold (le (name a) (num 2)))) ((hold (le (num 3) (name a)))))")
        book = book_of(work(block="(use d ((name a))) (give (num 5))"), inner, TRI)
        for a, passed in ((2, ()), (3, ()), (399, ()), (400, [("w", (1, "use", 0))])):
            self.told(book, "w", (a,), ("gave", 5), 0, passed)

    def test_within_a_claim_the_use_of_that_claim_is_passed_over(self):
        book = book_of(work(block="(use c ((num 0))) (give (num 5))"), claim(block="(use d ((num 0))) (hold (le (num 1) (name a)))", spends="(num 40)"),
                       claim("d", block=f"(if {NOT_KNOWN} () ())"))
        end, _, passed = walk(book, "w", (0,))
        self.assertEqual((end[:3], passed), (("break", "c", (2, "hold", 0)), [("c", (1, "use", 0))]))

    def test_lost(self):
        block = f"(hold {YES}) (if {YES} ((if (le (notion tri ((name a))) (num 3)) () ())) ()) (hold {NO})"
        book = book_of(claim(block=block, gives=NO), work(block="(use c ((name a))) (give (num 5))"), TRI)
        self.told(book, "c", (400,), ("lost", 3), 0)
        self.assertEqual(walk(book, "c", (399,))[0][:3], ("break", "c", (4, "hold", 0)))
        self.told(book, "w", (400,), ("gave", 5), 0, [("w", (1, "use", 0))])


class Bounds(Uses):
    def test_the_twenty_first_claim_under_way(self):
        book = book_of(DOWN, work(block="(hold (le (num 0) (num 0))) (use c ((name a))) (give (num 5))"))
        # One that is asked for is counted.
        self.told(book, "c", (19,), ("gave", None), 19)
        self.told(book, "c", (20,), ("gave", None), 20, [("c", USE)])
        self.told(book, "c", (30,), ("gave", None), 20, [("c", USE)])
        self.told(book, "w", (19,), ("gave", 5), 0)
        self.told(book, "w", (20,), ("gave", 5), 0, [("c", USE)])

    def test_it_stands_behind_the_needs_the_tick_and_what_is_left(self):
        down = "(if (le (name a) (num 0)) () ((use c ((add (name a) (num -1))))))"
        book = book_of(claim(block=down, spends="(mul 2000 (name a))", needs="(le (num 1) (name a))"))
        self.at(book, "c", (20,), "c", (2, "needs", 0), 19)
        self.told(book, "c", (21,), ("gave", None), 20, [("c", USE)])
        self.told(book_of(DOWN), "c", (20,), ("tired",), 19, (), 19)
        self.told(book_of(DOWN), "c", (20,), ("gave", None), 20, [("c", USE)], 20)
        # At 1 there is nothing left for a use.
        spends = "(mul 99 (add (name a) (mul -1 (div (add (name a) (num 99)) 100))))"
        book = book_of(claim(block=down, spends=spends))
        self.at(book, "c", (20,), "c", (2, "left", 0), 20)
        self.told(book, "c", (21,), ("gave", None), 20, [("c", USE)])

    def test_the_count_of_those_under_way_goes_down_again(self):
        block = "(use c ((num 10))) (use c ((num 10))) (use c ((num 18))) (use c ((num 10)))"
        book = book_of(DOWN, claim("d", block=block, spends="(mul 2000 (num 99))"))
        self.told(book, "d", (0,), ("gave", None), 52, [])

    SIX = "(use e ((num 0))) " * 6

    def many(self, sixes, ones):
        """A work, and a claim, that use a claim within which so many uses are begun: sixes of seven, and ones."""
        outer = claim("d", block="(use c ((num 0))) " * sixes + "(use e ((num 0))) " * ones + "(hold (le (name a) (num 3)))",
                      spends="(num 9000)", gives="(le (name a) (num 5))")
        user = "(hold (le (num 0) (num 0))) (use d ((name a))) "
        return book_of(outer, claim(block=self.SIX, spends="(num 90)"), claim("e"),
                       work(block=user + "(hold (le (name a) (num 7))) (give (num 5))"),
                       claim("u", block=user + "(hold (le (name a) (num 7)))", spends="(num 10000)"))

    def test_the_sixty_first_use_begun(self):
        for sixes, ones in ((8, 4), (0, 30), (7, 11)):
            book = self.many(sixes, ones)
            self.told(book, "w", (3,), ("gave", 5), 0)
            self.at(book, "w", (4,), "d", (sixes + ones + 1, "hold", 0))
            self.told(book, "u", (3,), ("gave", None), 7 * sixes + ones + 1)
        for sixes, ones in ((8, 5), (9, 0), (9, 3)):
            book = self.many(sixes, ones)
            # All under way within it ends: neither what it holds nor what it gives is looked at.
            self.told(book, "w", (7,), ("gave", 5), 0, [("w", USE)])
            self.told(book, "u", (7,), ("gave", None), 62, [("u", USE)])
            self.assertEqual(walk(book, "w", (8,))[0][:3], ("break", "w", (3, "hold", 0)))

    def test_it_is_asked_of_the_outermost_use(self):
        book = self.many(8, 5)
        # Where d itself is asked for, its own uses are the outermost ones.
        self.told(book, "d", (3,), ("gave", None), 61)
        book = book_of(work(block="(use d ((num 0))) (use d ((num 0))) (use d ((num 0))) (give (num 5))"), claim("e"),
                       claim("d", block="(use e ((num 0))) " * 30, spends="(num 900)"))
        self.told(book, "w", (0,), ("gave", 5), 0)

    def test_behind_what_is_left(self):
        book = self.many(8, 5)
        book.update(book_of(claim("e", needs="(le (name a) (num 0))")))
        book.update(book_of(claim("d", block="(use c ((num 0))) " * 8 + "(use e ((num 0))) " * 4 + "(use e ((name a)))", spends="(num 9000)")))
        self.at(book, "w", (1,), "d", (13, "needs", 0))
        self.told(book, "w", (0,), ("gave", 5), 0, [("w", USE)])
        book.update(book_of(claim("d", block="(use c ((num 0))) " * 8 + "(use e ((num 0))) " * 5, spends="(num 777)")))
        self.at(book, "w", (0,), "d", (13, "left", 0))
        book.update(book_of(claim("d", block="(use c ((num 0))) " * 8 + "(use e ((num 0))) " * 5, spends="(num 778)")))
        self.told(book, "w", (0,), ("gave", 5), 0, [("w", USE)])

    def test_those_that_would_be_the_twenty_first_are_not_begun(self):
        # Nineteen go down, then the last one uses three more, each passed over, forty times over.
        down = "(if (le (name a) (num 0)) ({}) ((use c ((add (name a) (num -1))))))".format("(use e ((num 0))) " * 35)
        book = book_of(claim(block=down, spends="(mul 9000 (add (name a) (num 1)))"), claim("e"),
                       claim("d", block="(use c ((num 18))) (use c ((num 18))) (use c ((num 18)))", spends="(num 1000000)"),
                       work(block="(use d ((num 0))) (give (num 5))"))
        passed = [("c", (number, "use", 0)) for number in range(2, 37)]
        self.told(book, "w", (0,), ("gave", 5), 0, passed)
        # With one frame fewer they are begun, and too many.
        book.update(book_of(claim("d", block="(use c ((num 17))) (use c ((num 17)))", spends="(num 1000000)")))
        self.told(book, "w", (0,), ("gave", 5), 0, [("w", (1, "use", 0))])


if __name__ == "__main__":
    unittest.main()
