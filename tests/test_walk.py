"""Walks of works: statements, looks and their order, own letters, left."""

import unittest

from books import LOOSE, NO, NOT_KNOWN, NO_WORTH, TRI, YES, book_of, claim, work
from leapwork.walk import walk


class Walk(unittest.TestCase):
    def told(self, book, name, inputs, end, ticks=None, passed=(), handed=2000):
        told = walk(book, name, inputs, ticks=handed)
        self.assertEqual(told[0], end)
        self.assertEqual(told[2], list(passed))
        if ticks is not None:
            self.assertEqual(told[1], ticks)

    def gives(self, block, worth, inputs=(), **parts):
        """A work of this block, and what it gives."""
        self.told(book_of(work(block=block, **parts), TRI), "w", inputs, ("gave", worth))

    def breaks(self, block, look, inputs=(), more=(), **parts):
        """A work of this block, and the look of its own at which it breaks."""
        end, _, _ = walk(book_of(work(block=block, **parts), TRI, LOOSE, *more), "w", inputs)
        self.assertEqual(end[:3], ("break", "w", look))


class Statements(Walk):
    ROW = {"letters": "(r row)", "own": "(s row) (x number)"}

    def test_set_and_give(self):
        self.gives("(give (name a))", 7, (7,))
        self.gives("(set x (add (name a) (num 1))) (set y (mul 3 (name x))) (set x (num 5)) (give (add (name x) (name y)))",
                   29, (7,))

    def test_own_letters_begin_as_nought(self):
        self.gives("(give (name y))", 0, (7,))
        self.gives("(give (row s))", (0, ()), ((2, ()),), result="row", **self.ROW)

    def test_put_row_and_room(self):
        row = (3, ((0, 4), (2, -1)))
        self.gives("(row s (row r)) (put s (num 1) (num 7)) (put s (num 0) (num 0)) (give (row s))",
                   (3, ((1, 7), (2, -1))), (row,), result="row", **self.ROW)
        # What is put in s isn't put in r.
        self.gives("(row s (row r)) (put s (num 1) (num 7)) (give (read (row r) (num 1)))", 0, (row,), **self.ROW)
        self.gives("(row s (room (size (row r)))) (put s (num 2) (num 7)) (give (row s))", (3, ((2, 7),)), (row,),
                   result="row", **self.ROW)
        self.gives("(row s (room (num 0))) (give (row s))", (0, ()), (row,), result="row", **self.ROW)

    def test_all_terms(self):
        row = (3, ((0, 4), (2, -1)))
        for term, worth in (("(div (num -7) 2)", -4), ("(mod (num -7) 2)", 1), ("(size (row r))", 3),
                            ("(read (row r) (read (row r) (num 1)))", 4), ("(mul -2 (read (row r) (num 2)))", 2)):
            self.gives(f"(set x {term}) (give (name x))", worth, (row,), **self.ROW)

    def test_if(self):
        block = "(if (le (name a) (num 3)) ((set x (num 1))) ((set x (num 2)))) (give (name x))"
        self.gives(block, 1, (3,))
        self.gives(block, 2, (4,))
        inner = "(if (le (name a) (num 3)) ((if (eq (name a) (num 3)) ((give (num 30))) ())) ()) (give (num 40))"
        for a, worth in ((2, 40), (3, 30), (4, 40)):
            self.gives(inner, worth, (a,))
        both = "(if (le (name a) (num 3)) ((give (num 1))) ((if (le (name a) (num 5)) ((give (num 2))) ((give (num 3))))))"
        for a, worth in ((3, 1), (5, 2), (6, 3)):
            self.gives(both, worth, (a,))

    def test_guards(self):
        block = "(if {} ((give (num 1))) ((give (num 0))))"
        for guard, a, worth in (("(not (eq (name a) (num 3)))", 3, 0), ("(not (eq (name a) (num 3)))", 4, 1),
                                ("(not (and (eq (name a) (num 3)) (le (name a) (num 3))))", 3, 0),
                                ("(not (or (eq (name a) (num 3)) (le (name a) (num 3))))", 3, 0),
                                ("(not (or (eq (name a) (num 3)) (le (name a) (num 3))))", 4, 1),
                                ("(not (le (name a) (num 3)))", 3, 0), ("(not (le (name a) (num 3)))", 4, 1),
                                ("(and (le (num 1) (name a)) (le (name a) (num 3)))", 0, 0),
                                ("(and (le (num 1) (name a)) (le (name a) (num 3)))", 3, 1),
                                ("(or (le (name a) (num 1)) (eq (name a) (num 3)))", 3, 1),
                                ("(or (le (name a) (num 1)) (eq (name a) (num 3)))", 2, 0)):
            self.gives(block.format(guard), worth, (a,))

    def test_while(self):
        block = "(while (le (name x) (name a)) () ((set y (add (name y) (name x))) (set x (add (name x) (num 1))))) (give (name y))"
        for a, worth, ticks in ((-1, 0, 0), (0, 0, 1), (4, 10, 5)):
            self.told(book_of(work(block=block)), "w", (a,), ("gave", worth), ticks)

    def test_whiles_within_one_another(self):
        block = """(while (le (name x) (name a)) () ((set y (num 0))
                    (while (le (name y) (name x)) () ((set z (add (name z) (num 1))) (set y (add (name y) (num 1)))))
                    (set x (add (name x) (num 1))))) (give (name z))"""
        own = "(x number) (y number) (z number)"
        self.told(book_of(work(block=block, own=own, spends="(num 99)")), "w", (3,), ("gave", 10), 14)

    def test_give_in_a_while(self):
        block = "(while (le (num 0) (num 0)) () ((if (eq (name x) (num 3)) ((give (name x))) ()) (set x (add (name x) (num 1))))) (give (num -1))"
        self.told(book_of(work(block=block)), "w", (0,), ("gave", 3), 4)
        self.told(book_of(work(block="(while (le (name x) (num 3)) () ((give (num 8)))) (give (num 9))")), "w", (0,), ("gave", 8), 1)

    def test_hold_and_use(self):
        more = claim(letters="(a number)", needs="(le (num 0) (name a))", gives="(le (num -1) (name a))")
        book = book_of(work(block="(hold (le (num 0) (name a))) (use c ((name a))) (give (name a))"), more)
        self.told(book, "w", (2,), ("gave", 2), 0)

    def test_a_claim(self):
        book = book_of(claim(block="(if (le (name a) (num 3)) ((hold (le (name a) (num 3)))) ((hold (le (num 4) (name a)))))"))
        self.told(book, "c", (3,), ("gave", None), 0)
        self.told(book, "c", (4,), ("gave", None), 0)
        self.told(book_of(claim(letters="")), "c", (), ("gave", None), 0)

    def test_a_claim_reads_beyond_the_ends(self):
        book = book_of(claim(letters="(r row)", block="(if (le (read (row r) (num 5)) (num 0)) () ((hold (le (num 7) (read (row r) (num 5))))))"))
        for row in ((2, ()), (0, ((5, 7),)), (2, ((-1, 8), (5, 9)))):
            self.told(book, "c", (row,), ("gave", None), 0)
        self.assertEqual(walk(book, "c", ((2, ((5, 3),)),))[0][:3], ("break", "c", (2, "hold", 0)))

    def test_what_is_handed_in_stays(self):
        book = book_of(work(block="(row s (row r)) (put s (num 0) (num 1)) (give (num 0))", **self.ROW))
        before = {name: text for name, text in book.items()}
        row = (2, ((1, 5),))
        told = walk(book, "w", (row,))
        self.assertEqual((book, row), (before, (2, ((1, 5),))))
        told[2].append(1)
        self.assertEqual(walk(book, "w", (row,)), (("gave", 0), 0, []))


class Looks(Walk):
    """Each look that may break, alone."""

    def test_spends(self):
        for spends, a in (("(num -1)", 0), ("(name a)", -1)):
            self.breaks("(give (num 0))", (0, "spends", 0), (a,), spends=spends)
        self.gives("(give (num 0))", 0, (0,), spends="(name a)")

    def test_places_of_reads(self):
        parts = {"letters": "(r row) (a number)", "own": "(s row) (x number)"}
        for block in ("(set x (read (row r) (name a)))", "(put s (read (row r) (name a)) (num 1))",
                      "(row s (room (read (row r) (name a))))", "(do x w ((row r) (read (row r) (name a))))",
                      "(if (le (num 0) (read (row r) (name a))) () ())",
                      "(while (le (num 1) (read (row r) (name a))) () ())", "(give (read (row r) (name a)))"):
            block = block if block[1] == "g" else block + " (give (num 0))"
            for row, place in (((2, ()), 2), ((2, ((-1, 5),)), -1), ((0, ()), 0), ((2, ((7, 5),)), 7)):
                self.breaks(block, (1, "place", 0), (row, place), **parts)
        for place in (0, 1):
            self.gives("(give (read (row r) (name a)))", 0, ((2, ()), place), **parts)

    def test_reads_from_left_to_right_inner_ones_ahead(self):
        parts = {"letters": "(r row) (a number) (b number)", "own": "(x number)"}
        term = "(add (read (row r) (read (row r) (name a))) (read (row r) (name b)))"
        row = (2, ((1, 9),))
        for block, number in ((f"(set x {term}) (give (num 0))", 1), (f"(give {term})", 1),
                              (f"(if (le (num 0) (num 0)) ((give {term})) ((give (num 0))))", 2)):
            self.breaks(block, (number, "place", 0), (row, 2, 5), **parts)
            self.breaks(block, (number, "place", 1), (row, 1, 5), **parts)
            self.breaks(block, (number, "place", 2), (row, 0, 5), **parts)
        # From left to right over all terms of the statement.
        guard = f"(or (eq {term} (read (row r) (num 3))) (le (read (row r) (num 4)) (num 0)))"
        self.breaks(f"(if {guard} () ()) (give (num 0))", (1, "place", 3), (row, 0, 0), **parts)
        guard = guard.replace("(num 3)", "(num 0)")
        self.breaks(f"(if {guard} () ()) (give (num 0))", (1, "place", 4), (row, 0, 0), **parts)

    def test_a_puts_own_place_stands_behind_its_reads(self):
        parts = {"letters": "(r row) (a number) (b number)", "own": "(s row)"}
        block = "(row s (room (num 2))) (put s (read (row r) (name a)) (read (row r) (name b))) (give (num 0))"
        row = (2, ((1, 7),))
        self.breaks(block, (2, "place", 0), (row, 2, 2), **parts)
        self.breaks(block, (2, "place", 1), (row, 1, 2), **parts)
        self.breaks(block, (2, "place", 2), (row, 1, 1), **parts)
        self.gives(block, 0, (row, 0, 1), **parts)
        for place in (-1, 2):
            self.breaks(f"(row s (room (num 2))) (put s (num {place}) (num 1)) (give (num 0))", (2, "place", 0),
                        (row, 0, 0), **parts)
        # An own row is of size 0 as it begins.
        self.breaks("(put s (num 0) (num 0)) (give (num 0))", (1, "place", 0), (row, 0, 0), **parts)

    def test_room(self):
        parts = {"letters": "(r row) (a number)", "own": "(s row)"}
        block = "(row s (room (read (row r) (name a)))) (give (size (row s)))"
        self.breaks(block, (1, "place", 0), ((1, ((0, -1),)), 1), **parts)
        self.breaks(block, (1, "room", 0), ((1, ((0, -1),)), 0), **parts)
        self.gives(block, 0, ((1, ()), 0), **parts)

    def test_needs(self):
        more = (work("v", needs=f"{YES} (le (name a) (num 3)) (le (num 0) (name a))"),
                claim("c", needs=f"{YES} (le (name a) (num 3)) (le (num 0) (name a))"))
        for call in ("(do x v ((name a)))", "(use c ((name a)))"):
            block = f"{call} (give (num 5))"
            self.breaks(block, (1, "needs", 1), (4,), more)
            self.breaks(block, (1, "needs", 2), (-1,), more)
            self.told(book_of(work(block=block, spends="(num 10)"), *more), "w", (3,), ("gave", 5))

    def test_left_of_a_do(self):
        more = (work("v", spends="(name a)"),)
        self.breaks("(do x v ((num 2))) (give (num 0))", (1, "left", 0), (0,), more, spends="(num 2)")
        self.told(book_of(work(block="(do x v ((num 2))) (give (num 0))", spends="(num 3)"), *more), "w", (0,), ("gave", 0), 1)
        # The tick is begun ahead of its look.
        end, ticks, _ = walk(book_of(work(block="(do x v ((num 2))) (give (num 0))", spends="(num 2)"), *more), "w", (0,))
        self.assertEqual((end[0], ticks), ("break", 1))

    def test_left_of_a_use_within_a_claim(self):
        for spends, end in (("(num 3)", ("gave", None)), ("(num 2)", None)):
            book = book_of(claim("c", block="(use d ((num 2)))", spends=spends), claim("d", spends="(name a)"))
            told = walk(book, "c", (0,))
            self.assertEqual(told[:2] if end else (told[0][:3], told[1]), (end or ("break", "c", (1, "left", 0)), 1))
        # A use in a work costs nothing.
        book = book_of(work(block="(use d ((num 2))) (give (num 0))", spends="(num 0)"), claim("d", spends="(name a)"))
        self.told(book, "w", (0,), ("gave", 0), 0)

    def test_hold(self):
        self.breaks("(set x (num 4)) (hold (le (name x) (name a))) (give (num 0))", (2, "hold", 0), (3,))
        self.breaks("(hold (all (num 0) (num 5) (le (name own) (name a)))) (give (num 0))", (1, "hold", 0), (3,))
        self.gives("(hold (all (num 0) (num 5) (le (name own) (name a)))) (give (num 0))", 0, (4,))
        book = book_of(claim(block="(if (le (name a) (num 3)) () ((hold (le (name a) (num 5)))))"))
        self.assertEqual(walk(book, "c", (6,))[0][:3], ("break", "c", (2, "hold", 0)))

    def test_keeps_and_again(self):
        block = f"(while (le (name x) (num 5)) ({YES} (le (name x) (name a))) ((set x (add (name x) (num 1))))) (give (num 0))"
        self.breaks(block, (1, "keeps", 1), (-1,))
        self.breaks(block, (1, "again", 1), (0,))
        self.gives(block, 0, (6,))
        # Also where the guard isn't so.
        self.breaks(f"(while {NO} ({YES} {NO}) ()) (give (num 0))", (1, "keeps", 1), (0,))

    def test_round(self):
        block = "(while (le (name x) (num 5)) () ((set x (add (name x) (num 1))))) (give (num 0))"
        self.breaks(block, (1, "round", 0), (5,), spends="(name a)")
        self.told(book_of(work(block=block, spends="(name a)")), "w", (6,), ("gave", 0), 6)

    def test_gives(self):
        gives = "(le (num 0) (name given)) (le (name given) (name a))"
        block = "(if (le (name a) (num 3)) ((give (num 2))) ()) (give (num -1))"
        self.breaks(block, (2, "gives", 1), (1,), gives=gives)
        self.breaks(block, (3, "gives", 0), (4,), gives=gives)
        self.told(book_of(work(block=block, gives=gives)), "w", (2,), ("gave", 2))
        rows = {"letters": "(r row)", "own": "", "result": "row", "gives": "(le (size (row given)) (num 2))"}
        self.breaks("(give (row r))", (1, "gives", 0), ((3, ()),), **rows)
        self.gives("(give (row r))", (2, ()), ((2, ()),), **rows)

    def test_gives_of_a_claim_stand_behind_its_statements(self):
        for block, many in (("", 0), (f"(hold {YES})", 1), (f"(if {YES} ((if {YES} () ()) (hold {YES})) ((hold {YES})))", 4)):
            book = book_of(claim(gives=f"{YES} (le (name a) (num 3))", block=block))
            self.assertEqual(walk(book, "c", (4,))[0][:3], ("break", "c", (many + 1, "gives", 1)))
            self.told(book, "c", (3,), ("gave", None))

    def test_statements_are_numbered_as_they_stand(self):
        block = f"""(set x (num 0)) (if (le (name a) (num 0)) ((set x (num 1)) (hold (le (num 0) (name a))))
                    ((while {NO} () ((set x (num 2)))) (hold (le (name a) (num 5))))) (hold (le (name a) (num 4))) (give (num 0))"""
        for a, number in ((-1, 4), (6, 7), (5, 8)):
            self.breaks(block, (number, "hold", 0), (a,))


class Order(Walk):
    """Several looks of one statement."""

    def test_do(self):
        more = (work("v", letters="(b number)", needs="(le (num 2) (name b)) (le (num 3) (name b))", spends="(num 5)"),)
        block = """(row s (room (num 4))) (put s (num 2) (num 2)) (put s (num 3) (num 3))
                   (do x v ((read (row s) (name a)))) (give (num 0))"""
        for a, look in ((4, (4, "place", 0)), (0, (4, "needs", 0)), (2, (4, "needs", 1)), (3, (4, "left", 0))):
            self.breaks(block, look, (a,), more, own="(x number) (s row)", spends="(num 5)")

    def test_while(self):
        """keeps, place, the guard, the round; again, place, the round."""
        own = "(x number) (s row)"
        block = """(row s (room (num 3))) (put s (num 2) (num 9))
                   (while (le (read (row s) (name x)) (num 0)) ((le (name x) (num 3)) (le (name a) (num 4)))
                     ((set x (add (name x) (name a))))) (give (num 7))"""
        for a, spends, look in ((5, 9, (3, "keeps", 1)), (-1, 9, (3, "place", 0)), (4, 0, (3, "round", 0)),
                                (4, 1, (3, "again", 0)), (3, 1, (3, "place", 0)), (1, 1, (3, "round", 0))):
            self.breaks(block, look, (a,), own=own, spends=f"(num {spends})")
        self.told(book_of(work(block=block, own=own, spends="(num 2)")), "w", (1,), ("gave", 7), 2)
        self.told(book_of(work(block=block, own=own, spends="(num 1)")), "w", (2,), ("gave", 7), 1)

    def test_tired_stands_behind_the_guard_and_ahead_of_the_cost(self):
        block = "(while (le (read (row s) (name x)) (num 0)) () ()) (give (num 7))"
        book = book_of(work(block=block, own="(x number) (s row)"))
        self.assertEqual(walk(book, "w", (0,), ticks=0)[0][2], (1, "place", 0))
        book = book_of(work(block=f"(row s (room (num 1))) {block}", own="(x number) (s row)", spends="(num 0)"))
        self.assertEqual(walk(book, "w", (0,), ticks=0), (("tired",), 0, []))
        end, ticks, _ = walk(book, "w", (0,), ticks=1)
        self.assertEqual((end[2], ticks), ((2, "round", 0), 1))
        book = book_of(work(block=f"(while {NO} () ()) (give (num 7))", spends="(num 0)"))
        self.assertEqual(walk(book, "w", (0,), ticks=0), (("gave", 7), 0, []))

    def test_give(self):
        block = "(give (read (row r) (name a)))"
        parts = {"letters": "(r row) (a number)", "own": "", "gives": "(le (num 0) (name given)) (le (num 1) (name given))"}
        for a, look in ((2, (1, "place", 0)), (0, (1, "gives", 0)), (1, (1, "gives", 1))):
            self.breaks(block, look, ((2, ((0, -1),)), a), **parts)

    def test_the_own_needs_stand_ahead_of_spends(self):
        book = book_of(work(needs="(le (num 0) (name a))", spends="(name a)"))
        self.assertEqual(walk(book, "w", (-1,))[0], ("unfit", 0))

    def test_a_callees_begin_stands_behind_what_is_left(self):
        more = (work("v", spends="(name a)"),)
        end, ticks, _ = walk(book_of(work(block="(do x v ((num -1))) (give (num 0))", spends="(num 0)"), *more), "w", (0,))
        self.assertEqual((end[:3], ticks), (("break", "v", (0, "spends", 0)), 1))
        self.breaks("(do x v ((num 0))) (give (num 0))", (1, "left", 0), (0,), more, spends="(num 0)")


class Left(Walk):
    def at(self, left, statements, more=(), inputs=(0,), word="hold", **parts):
        """What is left behind some statements, told by holds."""
        for number, so in ((left - 1, False), (left, True), (left + 1, False)):
            book = book_of(work(block=f"{statements} (hold (eq (name left) (num {number}))) (give (num 0))", **parts), *more, TRI)
            end = walk(book, "w", inputs)[0]
            self.assertEqual(end[0] == "gave", so, (number, end))

    def test_it_begins_as_the_spends(self):
        self.at(9, "")
        self.at(12, "", inputs=(4,), spends="(mul 3 (name a))")
        self.at(10, "", inputs=(4,), spends="(notion tri ((name a)))")

    def test_a_do_costs_one_and_what_the_callee_spends_at_what_it_is_handed(self):
        more = (work("v", spends="(name a)"),)
        self.at(4, "(do x v ((num 4)))", more)
        self.at(2, "(do x v ((num 4))) (do x v ((num 1)))", more)

    def test_a_round_costs_one(self):
        self.at(5, "(while (le (name x) (num 3)) () ((set x (add (name x) (num 1)))))")

    def test_a_use_in_a_work_costs_nothing(self):
        self.at(9, "(use c ((num 4)))", (claim(spends="(name a)"),))

    def test_in_keeps_and_again(self):
        block = "(while (le (name x) (num 3)) ((eq (name left) (add (num {}) (mul -1 (name x))))) ((set x (add (name x) (num 1))))) (give (num 0))"
        self.gives(block.format(9), 0, (0,))
        self.breaks(block.format(8), (1, "keeps", 0), (0,))
        block = "(while (le (name x) (num 3)) ((eq (name left) (num 9))) ()) (give (num 0))"
        self.breaks(block, (1, "again", 0), (0,))

    def test_in_claims(self):
        for many, so in ((3, False), (4, True), (5, False)):
            book = book_of(claim(block=f"(hold (eq (name left) (num 9))) (use d ((num 4))) (hold (eq (name left) (num {many})))"),
                           claim("d", spends="(name a)", block="(hold (eq (name left) (name a)))"))
            self.assertEqual(walk(book, "c", (0,))[0][0] == "gave", so)
            book.update(book_of(work(block="(use c ((num 0))) (give (num 0))", spends="(num 0)")))
            self.assertEqual(walk(book, "w", (0,))[0][0] == "gave", so)

    def test_a_callers_spends_without_a_worth(self):
        block = f"""(do x v ((num 0))) (hold (le (name left) (num 99)))
                    (while (le (name x) (num 3)) ((le (num 0) (name left))) ((set x (num 4)))) (give (name x))"""
        book = book_of(work(block=block, spends=NO_WORTH), work("v", block="(hold (eq (name left) (num 9))) (give (num 0))"))
        self.told(book, "w", (0,), ("gave", 4), 2, [("w", (0, "spends", 0)), ("w", (1, "left", 0)), ("w", (2, "hold", 0)),
                                                    ("w", (3, "keeps", 0)), ("w", (3, "round", 0)), ("w", (3, "again", 0))])

    def test_a_callees_spends_without_a_worth(self):
        block = f"(hold (eq (name left) (num 9))) (do x v ((num 0))) (hold {NO.replace('(num 0)', '(name left)')}) (give (num 0))"
        callee = work("v", spends=NO_WORTH, block="(hold (le (name left) (num 5))) (give (num 0))")
        self.told(book_of(work(block=block), callee), "w", (0,), ("gave", 0), 1,
                  [("w", (2, "left", 0)), ("v", (0, "spends", 0)), ("v", (1, "hold", 0)), ("w", (3, "hold", 0))])
        # Of claims, too; but a work has paid nothing for its use.
        inner = claim("d", spends=NO_WORTH, block="(hold (le (name left) (num 5)))")
        middle = claim(block="(use d ((num 0))) (hold (le (name left) (num 5)))")
        outer = work(block="(use c ((num 0))) (use d ((num 0))) (hold (eq (name left) (num 9))) (give (num 0))")
        passed = [("c", (1, "left", 0)), ("d", (0, "spends", 0)), ("d", (1, "hold", 0)), ("c", (2, "hold", 0))]
        self.told(book_of(outer, middle, inner), "w", (0,), ("gave", 0), 0, passed)
        self.told(book_of(outer, middle, inner), "c", (0,), ("gave", None), 1, passed)


class Passed(Walk):
    def test_own_needs(self):
        book = book_of(work(needs=f"{NOT_KNOWN} {YES} {NOT_KNOWN}", block="(give (num 3))"))
        self.told(book, "w", (0,), ("gave", 3), 0, [("w", (0, "needs", 0)), ("w", (0, "needs", 2))])
        book = book_of(work(needs=f"{NOT_KNOWN} {NO} {NOT_KNOWN}"))
        self.told(book, "w", (0,), ("unfit", 1), 0, [("w", (0, "needs", 0))])
        book = book_of(claim(needs=f"{YES} {NOT_KNOWN}"))
        self.told(book, "c", (0,), ("gave", None), 0, [("c", (0, "needs", 1))])

    def test_looks_of_each_kind_once_in_the_order_first_met(self):
        block = f"""(while (le (name x) (num 2)) ({NOT_KNOWN} {YES})
                      ((do y v ((num 0))) (use c ((num 0))) (hold {NOT_KNOWN}) (set x (add (name x) (num 1))))) (give (num 1))"""
        book = book_of(work(block=block, gives=f"{YES} {NOT_KNOWN}", spends="(num 99)"),
                       work("v", needs=NOT_KNOWN), claim(needs=NOT_KNOWN, gives=NOT_KNOWN))
        self.told(book, "w", (0,), ("gave", 1), 6,
                  [("w", (1, "keeps", 0)), ("w", (2, "needs", 0)), ("w", (3, "needs", 0)), ("c", (1, "gives", 0)),
                   ("w", (4, "hold", 0)), ("w", (1, "again", 0)), ("w", (6, "gives", 1))])

    def test_each_way_to_have_no_worth(self):
        for saying in (NOT_KNOWN, "(le (notion loose ((num 0))) (num 0))", "(le (notion tri ((num 400))) (num 0))",
                       "(le (notion tri ((row r))) (num 0))", "(all (num 0) (num 401) (le (num 0) (num 0)))"):
            book = book_of(work(letters="(r row)", own="", block=f"(hold {saying}) (give (num 1))"), TRI, LOOSE)
            self.told(book, "w", ((0, ()),), ("gave", 1), 0, [("w", (1, "hold", 0))])
        book = book_of(work(block="(hold (all (num 0) (num 400) (le (notion tri ((num 0))) (name own)))) (give (num 1))"), TRI)
        self.told(book, "w", (0,), ("gave", 1), 0, [("w", (1, "hold", 0))])

    def test_also_where_the_run_breaks_behind_them(self):
        book = book_of(work(block=f"(hold {NOT_KNOWN}) (hold {NO}) (give (num 0))", needs=NOT_KNOWN))
        end, _, passed = walk(book, "w", (0,))
        self.assertEqual((end[:3], passed), (("break", "w", (2, "hold", 0)), [("w", (0, "needs", 0)), ("w", (1, "hold", 0))]))

    def test_an_all_that_ends_ahead_of_what_has_no_worth(self):
        saying = "(all (num 0) (num 1000) (or (not (eq (name own) (name a))) (le (num 1) (num 0))))"
        book = book_of(work(block=f"(hold {saying}) (give (num 0))"))
        self.assertEqual(walk(book, "w", (399,))[0][4][("fresh",)], 399)
        self.told(book, "w", (400,), ("gave", 0), 0, [("w", (1, "hold", 0))])


class Unfit(Walk):
    def test_the_first_need_that_is_not_so(self):
        for text, name in ((work(needs="(le (num 0) (name a)) (le (name a) (num 5)) (le (name a) (num 4))"), "w"),
                           (claim(needs="(le (num 0) (name a)) (le (name a) (num 5)) (le (name a) (num 4))"), "c")):
            for a, end in ((-1, ("unfit", 0)), (6, ("unfit", 1)), (5, ("unfit", 2)), (4, ("gave", 0 if name == "w" else None))):
                self.told(book_of(text), name, (a,), end, 0)


if __name__ == "__main__":
    unittest.main()
