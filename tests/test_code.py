"""Code: the rows of works, and the heights of the stack."""

import unittest

from books import NO, YES, book_of, text_of, work
from leapwork.code import compiled, heights

ROWS = {"letters": "(a number) (r row)", "own": "(x number) (s row)"}
GIVEN = [("num", 0), ("give", 9)]


class Rows(unittest.TestCase):
    def rows(self, block, looked, bare, **parts):
        """The rows of a work; looked has those of bare, too, told with their own jumps."""
        text = text_of(work(block=block, **{**ROWS, **parts}))
        before = repr(text)
        self.assertEqual(compiled(text), [("begin",)] + looked)
        self.assertEqual(compiled(text, looked=True), [("begin",)] + looked)
        self.assertEqual(compiled(text, looked=False), bare)
        self.assertEqual(repr(text), before)

    def alike(self, block, rows, **parts):
        """A work whose looked-at code has but the begin more, and no jumps."""
        self.rows(block, rows, rows, **parts)


class Terms(Rows):
    def of(self, term, looked, bare=None):
        end = [("set", "x"), ("num", 0), ("give", 2)]
        self.rows(f"(set x {term}) (give (num 0))", looked + end, (looked if bare is None else bare) + end)

    def test_each(self):
        self.of("(num -7)", [("num", -7)])
        self.of("(name a)", [("name", "a")])
        self.of("(add (name a) (num 2))", [("name", "a"), ("num", 2), ("add",)])
        self.of("(mul -3 (name a))", [("name", "a"), ("mul", -3)])
        self.of("(size (row r))", [("size", "r")])
        self.of("(div (name a) 5)", [("name", "a"), ("div", 5)])
        self.of("(mod (name a) 6)", [("name", "a"), ("mod", 6)])
        self.of("(read (row r) (name a))", [("name", "a"), ("place", 1, 0, "r"), ("read", "r")], [("name", "a"), ("read", "r")])

    def test_within_one_another(self):
        self.of("(add (mul 2 (add (name a) (num 1))) (mod (div (size (row r)) 3) 4))",
                [("name", "a"), ("num", 1), ("add",), ("mul", 2), ("size", "r"), ("div", 3), ("mod", 4), ("add",)])
        looked = [("name", "a"), ("place", 1, 0, "s"), ("read", "s"), ("place", 1, 1, "r"), ("read", "r"), ("num", 3), ("place", 1, 2, "s"),
                  ("read", "s"), ("add",)]
        self.of("(add (read (row r) (read (row s) (name a))) (read (row s) (num 3)))", looked, [row for row in looked if row[0] != "place"])


class Statements(Rows):
    def test_set_and_give(self):
        self.alike("(give (name a))", [("name", "a"), ("give", 1)])
        self.alike("(give (row r))", [("row", "r"), ("give", 1)], result="row")
        self.rows("(set x (num 1)) (give (name x))",
                  [("num", 1), ("set", "x"), ("name", "x"), ("look", 2, "gives", 0), ("look", 2, "gives", 1), ("give", 2)],
                  [("num", 1), ("set", "x"), ("name", "x"), ("give", 2)], gives=f"{YES} {NO}")
        self.rows("(give (row r))", [("row", "r"), ("look", 1, "gives", 0), ("give", 1)], [("row", "r"), ("give", 1)],
                  gives=YES, result="row")

    def test_put(self):
        self.rows("(put s (num 1) (num 2)) (give (num 0))",
                  [("num", 1), ("num", 2), ("edge", 1, 0, "s"), ("put", "s"), ("num", 0), ("give", 2)],
                  [("num", 1), ("num", 2), ("put", "s"), ("num", 0), ("give", 2)])
        self.rows("(hold (le (num 0) (num 1))) (put s (read (row r) (num 1)) (read (row s) (name a))) (give (num 0))",
                  [("look", 1, "hold", 0), ("num", 1), ("place", 2, 0, "r"), ("read", "r"), ("name", "a"), ("place", 2, 1, "s"), ("read", "s"),
                   ("edge", 2, 2, "s"), ("put", "s"), ("num", 0), ("give", 3)],
                  [("num", 1), ("read", "r"), ("name", "a"), ("read", "s"), ("put", "s"), ("num", 0), ("give", 3)])

    def test_row(self):
        self.alike("(row s (row r)) (give (num 0))", [("row", "r"), ("set", "s"), ("num", 0), ("give", 2)])
        self.rows("(row s (room (read (row r) (num 1)))) (give (num 0))",
                  [("num", 1), ("place", 1, 0, "r"), ("read", "r"), ("look", 1, "room", 0), ("room",), ("set", "s"), ("num", 0), ("give", 2)],
                  [("num", 1), ("read", "r"), ("room",), ("set", "s"), ("num", 0), ("give", 2)])

    def test_do(self):
        self.alike("(do x v ()) (do s other ((name a))) (give (num 0))",
                   [("do", 1, "v", 0, "x"), ("name", "a"), ("do", 2, "other", 1, "s"), ("num", 0), ("give", 3)])
        self.rows("(do x v ((add (name a) (num 1)) (row r) (read (row r) (num 2)) (row s))) (give (num 0))",
                  [("name", "a"), ("num", 1), ("add",), ("row", "r"), ("num", 2), ("place", 1, 0, "r"), ("read", "r"), ("row", "s"),
                   ("do", 1, "v", 4, "x"), ("num", 0), ("give", 2)],
                  [("name", "a"), ("num", 1), ("add",), ("row", "r"), ("num", 2), ("read", "r"), ("row", "s"), ("do", 1, "v", 4, "x"), ("num", 0),
                   ("give", 2)])

    def test_hold_and_use(self):
        self.rows(f"(hold {NO}) (use c ((num 1) (row r))) (hold {YES}) (give (num 0))",
                  [("look", 1, "hold", 0), ("use", 2), ("look", 3, "hold", 0), ("num", 0), ("give", 4)], [("num", 0), ("give", 4)])

    def test_guards(self):
        for guard, rows in (("(le (name a) (num 2))", [("name", "a"), ("num", 2), ("le",)]),
                            ("(eq (name a) (size (row r)))", [("name", "a"), ("size", "r"), ("eq",)]),
                            ("(not (eq (name a) (num 2)))", [("name", "a"), ("num", 2), ("eq",), ("not",)]),
                            ("(and (le (name a) (num 2)) (or (le (num 1) (num 3)) (not (eq (num 4) (num 5)))))",
                             [("name", "a"), ("num", 2), ("le",), ("num", 1), ("num", 3), ("le",), ("num", 4), ("num", 5), ("eq",), ("not",),
                              ("or",), ("and",)])):
            many = len(rows)
            def told(first):
                return rows + [("unless", first + many + 2), ("jump", first + many + 2), ("num", 0), ("give", 2)]
            self.rows(f"(if {guard} () ()) (give (num 0))", told(1), told(0))

    def test_reads_are_numbered_within_a_statement(self):
        block = "(if (or (le (read (row r) (num 1)) (num 2)) (eq (read (row s) (num 3)) (read (row r) (num 4)))) ((set x (read (row r) (num 5)))) ()) (give (read (row s) (num 6)))"
        places = [row for row in compiled(text_of(work(block=block, **ROWS))) if row[0] == "place"]
        self.assertEqual(places, [("place", 1, 0, "r"), ("place", 1, 1, "s"), ("place", 1, 2, "r"), ("place", 2, 0, "r"), ("place", 3, 0, "s")])


class Jumps(Rows):
    GUARD = "(le (name a) (num 2))"
    LAID = [("name", "a"), ("num", 2), ("le",)]

    def test_if(self):
        self.rows(f"(if {self.GUARD} ((set x (num 1)) (hold {YES})) ((set x (num 2)))) (give (num 0))",
                  self.LAID + [("unless", 9), ("num", 1), ("set", "x"), ("look", 3, "hold", 0), ("jump", 11), ("num", 2), ("set", "x"), ("num", 0), ("give", 5)],
                  self.LAID + [("unless", 7), ("num", 1), ("set", "x"), ("jump", 9), ("num", 2), ("set", "x"), ("num", 0), ("give", 5)])

    def test_ifs_that_end(self):
        """There is a jump behind what gives, too, and beyond the last row."""
        self.rows(f"(if {self.GUARD} ((give (num 1))) ((give (num 2))))",
                  self.LAID + [("unless", 8), ("num", 1), ("give", 2), ("jump", 10), ("num", 2), ("give", 3)],
                  self.LAID + [("unless", 7), ("num", 1), ("give", 2), ("jump", 9), ("num", 2), ("give", 3)])

    def test_while(self):
        self.rows(f"(while {self.GUARD} ({YES} {NO}) ((set x (num 1)))) (give (num 0))",
                  [("look", 1, "keeps", 0), ("look", 1, "keeps", 1)] + self.LAID
                  + [("unless", 13), ("round", 1), ("num", 1), ("set", "x"), ("look", 1, "again", 0), ("look", 1, "again", 1), ("jump", 3),
                     ("num", 0), ("give", 3)],
                  self.LAID + [("unless", 8), ("round", 1), ("num", 1), ("set", "x"), ("jump", 0), ("num", 0), ("give", 3)])
        self.rows(f"(while {self.GUARD} () ()) (give (num 0))",
                  self.LAID + [("unless", 7), ("round", 1), ("jump", 1), ("num", 0), ("give", 2)],
                  self.LAID + [("unless", 6), ("round", 1), ("jump", 0), ("num", 0), ("give", 2)])

    def test_within_one_another(self):
        guard = "(le (num 1) (read (row r) (num 0)))"
        laid = [("num", 1), ("num", 0), ("read", "r"), ("le",)]
        self.rows(f"(set x (num 5)) (while {guard} ({YES}) ((if {guard} ((while {guard} () ((set x (num 6))))) ((give (num 7)))))) (give (num 0))",
                  [("num", 5), ("set", "x"), ("look", 2, "keeps", 0),
                   ("num", 1), ("num", 0), ("place", 2, 0, "r"), ("read", "r"), ("le",), ("unless", 32), ("round", 2),
                   ("num", 1), ("num", 0), ("place", 3, 0, "r"), ("read", "r"), ("le",), ("unless", 28),
                   ("num", 1), ("num", 0), ("place", 4, 0, "r"), ("read", "r"), ("le",), ("unless", 27), ("round", 4), ("num", 6), ("set", "x"), ("jump", 17),
                   ("jump", 30), ("num", 7), ("give", 6), ("look", 2, "again", 0), ("jump", 4), ("num", 0), ("give", 7)],
                  [("num", 5), ("set", "x")] + laid + [("unless", 26), ("round", 2)] + laid + [("unless", 23)] + laid
                  + [("unless", 22), ("round", 4), ("num", 6), ("set", "x"), ("jump", 13), ("jump", 25), ("num", 7), ("give", 6), ("jump", 2), ("num", 0), ("give", 7)])


class Heights(Rows):
    def high(self, block, looked, bare=None, **parts):
        text = text_of(work(block=block, **{**ROWS, **parts}))
        for due, is_looked in ((looked, True), (bare, False)):
            if due is not None:
                rows = compiled(text, looked=is_looked)
                before = list(rows)
                self.assertEqual(heights(rows), due)
                self.assertEqual(rows, before)

    def test_terms(self):
        self.high("(set x (add (name a) (mul 2 (read (row r) (add (num 1) (size (row r))))))) (give (num 0))",
                  ["", "", "n", "nn", "nnn", "nn", "nn", "nn", "nn", "n", "", "n"],
                  ["", "n", "nn", "nnn", "nn", "nn", "nn", "n", "", "n"])
        self.high("(set x (mod (div (name a) 2) 3)) (give (num 0))", ["", "", "n", "n", "n", "", "n"])
        self.high("(set x (add (name a) (add (mod (name a) 2) (div (name a) 2)))) (give (num 0))", None,
                  ["", "n", "nn", "nn", "nnn", "nnn", "nn", "n", "", "n"])

    def test_guards(self):
        self.high("(if (or (le (num 1) (num 2)) (not (eq (num 3) (num 4)))) () ()) (give (num 0))", None,
                  ["", "n", "nn", "n", "nn", "nnn", "nn", "nn", "n", "", "", "n"])
        self.high("(if (and (not (le (num 1) (num 2))) (or (eq (num 3) (num 4)) (le (num 5) (num 6)))) () ()) (give (num 0))", None,
                  ["", "n", "nn", "n", "n", "nn", "nnn", "nn", "nnn", "nnnn", "nnn", "nn", "n", "", "", "n"])

    def test_statements(self):
        self.high("(put s (num 1) (num 2)) (give (num 0))", ["", "", "n", "nn", "nn", "", "n"], ["", "n", "nn", "", "n"])
        self.high("(row s (row r)) (row s (room (num 1))) (give (row s))", ["", "", "r", "", "n", "n", "r", "", "r"], ["", "r", "", "n", "r", "", "r"],
                  result="row")
        self.high(f"(hold {YES}) (use c ()) (give (row r))", ["", "", "", "", "r", "r"], ["", "r"], result="row", gives=YES)

    def test_rows_and_numbers_on_the_stack(self):
        self.high("(do x v ((row r) (add (name a) (num 1)) (row s) (num 4))) (do x v ()) (give (num 0))", None,
                  ["", "r", "rn", "rnn", "rn", "rnr", "rnrn", "", "", "n"])

    def test_rows_that_are_never_come_to(self):
        self.high(f"(if {YES} ((give (num 1))) ((give (num 2))))", None, ["", "n", "nn", "n", "", "n", None, "", "n"])
        self.high(f"(while {YES} ({NO}) ((give (num 1)))) (give (num 2))",
                  ["", "", "", "n", "nn", "n", "", "", "n", None, None, "", "n"], ["", "n", "nn", "n", "", "", "n", None, "", "n"])
        self.high(f"(if {YES} ((if {YES} ((give (num 1))) ((give (num 2))))) ()) (give (num 3))", None,
                  ["", "n", "nn", "n", "", "n", "nn", "n", "", "n", None, "", "n", None, "", "n"])

    def test_no_rows(self):
        self.assertEqual(heights([]), [])

    def test_jumps(self):
        self.high(f"(if {YES} ((set x (num 1))) ((give (num 2)))) (give (num 3))", None, ["", "n", "nn", "n", "", "n", "", "", "n", "", "n"])
        self.high(f"(if {YES} ((give (num 1))) ((set x (num 2)))) (give (num 3))", None, ["", "n", "nn", "n", "", "n", None, "", "n", "", "n"])
        self.high(f"(while {YES} () ((if {YES} ((set x (num 1))) ((set x (num 2)))))) (give (num 0))", None,
                  ["", "n", "nn", "n", "", "", "n", "nn", "n", "", "n", "", "", "n", "", "", "n"])


if __name__ == "__main__":
    unittest.main()
