"""Goals: which there are, their order, their bundles word for word, too great ones."""

import unittest

from books import NO, TRI, YES, book_of, claim, work
from leapwork.errors import NoName
from leapwork.goals import goal_number, goals_of
from leapwork.judge import is_bundle
from samples import ANYTHING

NOUGHT, ONE, LESS_ONE = ("num", 0), ("num", 1), ("num", -1)
SPENDS = ("le", NOUGHT, ("num", 9))
NONE, SURE = ("le", ONE, NOUGHT), ("le", NOUGHT, ONE)
A, R = ("input", "a"), ("input", "r")


def name(n):
    return ("name", n)


def row(n):
    return ("row", n)


def no(saying):
    return ("not", saying)


def within(place, where):
    return ("and", ("le", NOUGHT, place), ("le", ("add", place, ONE), ("size", where)))


class Goals(unittest.TestCase):
    def goal(self, book, look, way=(), of="w"):
        """The bundle and the letters of the one goal of this look and way."""
        found = [goal for goal in goals_of(book, of) if goal[:2] == (way, look)]
        self.assertEqual(len(found), 1, goals_of(book, of))
        self.assertTrue(found[0][2] is None or is_bundle(found[0][2]))
        return found[0][2], found[0][3]

    def looks(self, book, *looks, of="w"):
        """All goals by their looks and ways, in order; a look without a way has none."""
        due = [look if isinstance(look[0], tuple) else (look, ()) for look in looks]
        self.assertEqual([(goal[1], goal[0]) for goal in goals_of(book, of)], due)


class Which(Goals):
    def test_a_begin_alone(self):
        book = book_of(work(letters="(a number) (r row)", needs="(le (name a) (num 5)) (le (num 0) (size (row r)))", spends="(add (name a) (num 2))"))
        self.assertEqual(goals_of(book, "w"), [
            ((), (0, "spends", 0), [("le", name(0), ("num", 5)), ("le", NOUGHT, ("size", row(1))),
                                    no(("le", NOUGHT, ("add", name(0), ("num", 2))))], (A, R))])
        self.assertEqual(goals_of(book_of(work()), "w"), [((), (0, "spends", 0), [no(SPENDS)], ())])

    def test_of_each_statement(self):
        book = book_of(
            work(letters="(a number) (r row)", own="(x number) (s row)", gives=f"{YES} {YES}", block=f"""
                (set x (add (read (row r) (read (row r) (name a))) (num 1))) (put s (read (row r) (num 0)) (read (row r) (num 1)))
                (row s (row r)) (row s (room (read (row r) (num 2)))) (do x v ((read (row r) (num 3)))) (hold {YES})
                (use c ((read (row r) (num 4)))) (if (le (read (row r) (num 5)) (num 0)) () ())
                (while (le (read (row r) (num 6)) (num 0)) () ()) (give (read (row r) (num 7)))"""),
            work("v", needs=f"{YES} {YES}"), claim(needs=f"{YES} {YES}", gives=YES))
        looks = [(0, "spends", 0), (1, "place", 0), (1, "place", 1), (2, "place", 0), (2, "place", 1), (2, "place", 2),
                 (4, "place", 0), (4, "room", 0), (5, "place", 0), (5, "needs", 0), (5, "needs", 1), (5, "left", 0),
                 (6, "hold", 0), (7, "needs", 0), (7, "needs", 1), (8, "place", 0)]
        ways = [(("then", 8),), (("else", 8),)]
        looks += [((9, "place", 0), way) for way in ways] + [((9, "round", 0), way + (("in", 9),)) for way in ways]
        looks += [((10, word, part), way + (("past", 9),)) for word, part in (("place", 0), ("gives", 0), ("gives", 1)) for way in ways]
        self.looks(book, *looks)

    def test_whiles(self):
        block = f"(while (le (read (row r) (num 6)) (num 0)) ({YES} {YES}) ((hold {YES}))) (give (num 0))"
        inner = (("in", 1),)
        self.looks(book_of(work(letters="(r row)", own="", block=block, gives=YES)),
                   (0, "spends", 0), (1, "keeps", 0), (1, "keeps", 1), (1, "place", 0), ((1, "round", 0), inner),
                   ((1, "again", 0), inner), ((1, "again", 1), inner), ((2, "hold", 0), inner), ((3, "gives", 0), (("past", 1),)))

    def test_a_while_whose_block_ends(self):
        block = f"(while {YES} ({YES}) ((if {YES} ((give (num 1))) ((give (num 2)))))) (give (num 0))"
        self.looks(book_of(work(block=block, gives=YES)),
                   (0, "spends", 0), (1, "keeps", 0), ((1, "round", 0), (("in", 1),)), ((3, "gives", 0), (("in", 1), ("then", 2))),
                   ((4, "gives", 0), (("in", 1), ("else", 2))), ((5, "gives", 0), (("past", 1),)))

    def test_ifs_and_whiles_within_one_another(self):
        block = f"""(if {YES} ((while {YES} ({YES}) ((if {YES} ((give (num 1))) ()) (while {YES} () ()) (hold {YES})))) ()) (give (num 0))"""
        one, two = (("then", 1), ("in", 2), ("else", 3)), (("then", 1), ("past", 2))
        self.looks(book_of(work(block=block, gives=YES)),
                   (0, "spends", 0), ((2, "keeps", 0), (("then", 1),)), ((2, "round", 0), (("then", 1), ("in", 2))),
                   ((2, "again", 0), one + (("past", 5),)), ((4, "gives", 0), (("then", 1), ("in", 2), ("then", 3))),
                   ((5, "round", 0), one + (("in", 5),)), ((6, "hold", 0), one + (("past", 5),)),
                   ((7, "gives", 0), two), ((7, "gives", 0), (("else", 1),)))

    def test_ways_stand_step_by_step_then_and_in_ahead(self):
        block = f"(if {YES} ((set x (num 1))) ((if {YES} () ()))) (while {YES} () ()) (if {YES} () ()) (hold {YES}) (give (num 0))"
        first = [(("then", 1),), (("else", 1), ("then", 3)), (("else", 1), ("else", 3))]
        self.looks(book_of(work(block=block)), (0, "spends", 0), *[((4, "round", 0), way + (("in", 4),)) for way in first],
                   *[((6, "hold", 0), way + (("past", 4), (word, 5))) for way in first for word in ("then", "else")])

    def test_of_claims(self):
        block = f"(if {YES} ((hold {YES})) ((use d ((num 0))))) (hold {YES})"
        book = book_of(claim(block=block, gives=f"{YES} {YES}"), claim("d", needs=YES), claim("e", letters="", gives=YES))
        ways = [(("then", 1),), (("else", 1),)]
        self.looks(book, (0, "spends", 0), ((2, "hold", 0), ways[0]), ((3, "needs", 0), ways[1]), ((3, "left", 0), ways[1]),
                   *[((4, "hold", 0), way) for way in ways], *[((5, "gives", part), way) for part in (0, 1) for way in ways], of="c")
        self.looks(book, (0, "spends", 0), (1, "gives", 0), of="e")

    def test_a_claim_has_no_looks_at_places(self):
        block = "(if (le (read (row r) (num 5)) (num 0)) ((use d ((read (row r) (num 6))))) ()) (hold (le (read (row r) (num 7)) (num 0)))"
        book = book_of(claim(letters="(r row)", block=block), claim("d"))
        self.looks(book, (0, "spends", 0), ((2, "left", 0), (("then", 1),)), ((3, "hold", 0), (("then", 1),)), ((3, "hold", 0), (("else", 1),)), of="c")

    def test_a_letter_may_be_called_as_what_is_used(self):
        book = book_of(claim(letters="(c number)", block="(hold (le (num 3) (name c)))", gives="(le (name c) (num 5))"),
                       work(letters="(c number)", own="(v number)", block="(use c ((name c))) (do v v ()) (hold (le (name c) (name v))) (give (num 0))"),
                       work("v", letters="", own=""))
        left = ("le", NOUGHT, ("add", ("add", ("num", 9), LESS_ONE), ("mul", -1, ("num", 9))))
        self.assertEqual(self.goal(book, (3, "hold", 0)),
                         ([SPENDS, ("le", name(0), ("num", 5)), left, no(("le", name(0), name(1)))], (("input", "c"), ("do", 2))))

    def test_a_way_ends_at_what_does_not_fit(self):
        for call in ("(do x none ((read (row r) (num 0))))", "(do x c ((read (row r) (num 0))))", "(do x v ((read (row r) (num 0)) (num 1)))",
                     "(do s v ((read (row r) (num 0))))"):
            book = book_of(work(letters="(r row)", own="(x number) (s row)", block=f"{call} (hold {YES}) (give (num 0))"), claim(), work("v"))
            self.looks(book, (0, "spends", 0), (1, "place", 0))
        for call in ("(use none ((num 1)))", "(use v ((num 1)))", "(use c ())", "(use c ((row r)))"):
            book = book_of(work(letters="(r row)", own="", block=f"(if {YES} ({call} (hold {YES})) ()) (hold {YES}) (give (num 0))"), claim(), work("v"))
            self.looks(book, (0, "spends", 0), ((4, "hold", 0), (("else", 1),)))

    def test_a_notion_that_does_not_stand_firm_is_no_matter(self):
        book = book_of(work(block="(hold (le (notion none ((name a))) (num 3))) (give (num 0))"))
        self.assertEqual(self.goal(book, (1, "hold", 0)),
                         ([("le", NOUGHT, ("num", 9)), no(("le", ("notion", "none", (name(0),)), ("num", 3)))], (A,)))


class Bundles(Goals):
    def test_set_row_and_put_lay_terms(self):
        book = book_of(work(letters="(a number) (r row)", own="(x number) (s row) (t row)", block="""
            (hold (le (name x) (read (row t) (num 4)))) (set x (add (name a) (num 1))) (set x (mul 2 (name x))) (row s (row r))
            (put s (name x) (name a)) (row r2 (room (name x))) (hold (le (size (row s)) (size (row t)))) (give (num 0))""".replace(
                "r2", "t")))
        goal, letters = self.goal(book, (1, "hold", 0))
        self.assertEqual((goal, letters), ([SPENDS, no(("le", NOUGHT, ("read", ("room", NOUGHT), ("num", 4))))], ()))
        goal, letters = self.goal(book, (7, "hold", 0))
        x = ("mul", 2, ("add", name(0), ONE))
        self.assertEqual(goal, [
            SPENDS, ("le", NOUGHT, ("read", ("room", NOUGHT), ("num", 4))), ("and", ("le", NOUGHT, ("mul", 2, ("add", name(0), ONE))),
                                                                            ("le", ("add", x, ONE), ("size", row(1)))),
            ("le", NOUGHT, x), no(("le", ("size", ("with", row(1), x, name(0))), ("size", ("room", x))))])
        self.assertEqual(letters, (A, R))

    def test_places(self):
        book = book_of(work(letters="(a number) (r row)", own="(s row)", block="""
            (row s (room (num 5))) (put s (read (row r) (read (row s) (name a))) (num 7)) (give (num 0))"""))
        inner = ("read", ("room", ("num", 5)), name(0))
        one, two = within(name(0), ("room", ("num", 5))), within(inner, row(1))
        begin = [SPENDS, ("le", NOUGHT, ("num", 5))]
        self.assertEqual(self.goal(book, (2, "place", 0)), (begin + [no(one)], (A,)))
        self.assertEqual(self.goal(book, (2, "place", 1)), (begin + [one, no(two)], (A, R)))
        own = within(("read", row(1), inner), ("room", ("num", 5)))
        self.assertEqual(self.goal(book, (2, "place", 2)), (begin + [one, two, no(own)], (A, R)))

    def test_guards(self):
        block = f"""(if (le (read (row r) (name a)) (num 1)) ((set x (num 4))) ((set x (num 5)))) (hold (le (name x) (name a))) (give (num 0))"""
        book = book_of(work(letters="(a number) (r row)", block=block))
        place, guard = within(name(0), row(1)), ("le", ("read", row(1), name(0)), ONE)
        self.assertEqual(self.goal(book, (4, "hold", 0), (("then", 1),)), ([SPENDS, place, guard, no(("le", ("num", 4), name(0)))], (A, R)))
        self.assertEqual(self.goal(book, (4, "hold", 0), (("else", 1),)), ([SPENDS, place, no(guard), no(("le", ("num", 5), name(0)))], (A, R)))

    def test_a_do(self):
        callee = work("v", letters="(a number) (r row)", own="", needs="(le (num 3) (name a)) (le (name a) (size (row r)))",
                      gives="(le (name given) (name a)) (eq (name given) (size (row r)))", spends="(mul 4 (name a))")
        book = book_of(work(letters="(b number) (r row)", block="""(do x v ((add (name b) (num 1)) (row r))) (do x v ((name x) (row r)))
                            (hold (le (name x) (name left))) (give (num 0))"""), callee)
        b, r = name(0), row(1)
        handed = ("add", b, ONE)
        need, other = ("le", ("num", 3), handed), ("le", handed, ("size", r))
        first = ("add", ("add", ("num", 9), LESS_ONE), ("mul", -1, ("mul", 4, handed)))
        left = ("le", NOUGHT, first)
        self.assertEqual(self.goal(book, (1, "needs", 0)), ([SPENDS, no(need)], (("input", "b"),)))
        self.assertEqual(self.goal(book, (1, "needs", 1)), ([SPENDS, need, no(other)], (("input", "b"), R)))
        self.assertEqual(self.goal(book, (1, "left", 0)), ([SPENDS, need, other, no(left)], (("input", "b"), R)))
        x, y = name(2), name(3)
        more = [SPENDS, need, other, left, ("le", x, handed), ("eq", x, ("size", r))]
        second = ("add", ("add", first, LESS_ONE), ("mul", -1, ("mul", 4, x)))
        more += [("le", ("num", 3), x), ("le", x, ("size", r)), ("le", NOUGHT, second), ("le", y, x), ("eq", y, ("size", r))]
        self.assertEqual(self.goal(book, (3, "hold", 0)), (more + [no(("le", y, second))], (("input", "b"), R, ("do", 1), ("do", 2))))

    def test_a_do_that_gives_a_row(self):
        callee = work("v", letters="", own="(r row)", result="row", gives="(le (num 3) (size (row given)))", block="(give (row r))")
        book = book_of(work(own="(s row)", block="(do s v ()) (give (read (row s) (name a)))", spends="(num 20)"), callee)
        left = ("le", NOUGHT, ("add", ("add", ("num", 20), LESS_ONE), ("mul", -1, ("num", 9))))
        self.assertEqual(self.goal(book, (2, "place", 0)),
                         ([("le", NOUGHT, ("num", 20)), left, ("le", ("num", 3), ("size", row(0))), no(within(name(1), row(0)))],
                          (("do", 1), A)))

    def test_a_use_in_a_work(self):
        callee = claim(letters="(r row) (a number)", needs="(le (name a) (num 3))", gives="(le (size (row r)) (name a))", spends="(num 2)")
        book = book_of(work(letters="(s row)", own="", block="""(use c ((with (row s) (num 1) (num 2)) (notion tri ((num 3)))))
                            (hold (le (name left) (num 4))) (give (num 0))"""), callee, TRI)
        tri = ("notion", "tri", (("num", 3),))
        need = ("le", tri, ("num", 3))
        self.assertEqual(self.goal(book, (1, "needs", 0)), ([SPENDS, no(need)], ()))
        give = ("le", ("size", ("with", row(0), ONE, ("num", 2))), tri)
        self.assertEqual(self.goal(book, (2, "hold", 0)), ([SPENDS, need, give, no(("le", ("num", 9), ("num", 4)))], (("input", "s"),)))

    def test_a_use_in_a_claim(self):
        callee = claim("d", needs="(le (name a) (num 3))", gives="(le (name a) (num 2))", spends="(add (name a) (num 2))")
        book = book_of(claim(block="(use d ((name a))) (hold (le (name left) (num 4)))"), callee)
        need, give = ("le", name(0), ("num", 3)), ("le", name(0), ("num", 2))
        left = ("add", ("add", ("num", 9), LESS_ONE), ("mul", -1, ("add", name(0), ("num", 2))))
        self.assertEqual(self.goal(book, (1, "left", 0), of="c"), ([SPENDS, need, no(("le", NOUGHT, left))], (A,)))
        self.assertEqual(self.goal(book, (2, "hold", 0), of="c"),
                         ([SPENDS, need, ("le", NOUGHT, left), give, no(("le", left, ("num", 4)))], (A,)))

    def test_a_while(self):
        block = """(set x (name a)) (while (le (name x) (name y)) ((le (name x) (name left))) ((set x (add (name x) (num 1)))
                   (if (le (num 0) (num 1)) ((put s (name a) (name x))) ()))) (hold (le (name x) (size (row s)))) (give (name left2))"""
        book = book_of(work(own="(x number) (y number) (s row)", spends="(mul 3 (name a))", block=block.replace("(name left2)", "(num 0)")))
        a, spends = name(0), ("mul", 3, name(0))
        begin = [("le", NOUGHT, spends)]
        keeps = ("le", a, spends)
        self.assertEqual(self.goal(book, (2, "keeps", 0)), (begin + [no(keeps)], (A,)))
        x, left = name(1), name(2)
        inner = begin + [keeps, ("le", x, left)]
        # y isn't written within, so it is what it was.
        guard = ("le", x, NOUGHT)
        round_left = ("add", left, LESS_ONE)
        letters = (A, ("loop", 2, "x"), ("loop", 2, "left"))
        self.assertEqual(self.goal(book, (2, "round", 0), (("in", 2),)), (inner + [guard, no(("le", NOUGHT, round_left))], letters))
        again = ("le", ("add", x, ONE), round_left)
        place = within(a, row(3))
        more = inner + [guard, ("le", NOUGHT, round_left)]
        self.assertEqual(self.goal(book, (5, "place", 0), (("in", 2), ("then", 4))),
                         (more + [SURE, no(place)], letters + (("loop", 2, "s"),)))
        self.assertEqual(self.goal(book, (2, "again", 0), (("in", 2), ("then", 4))),
                         (more + [SURE, place, no(again)], letters + (("loop", 2, "s"),)))
        self.assertEqual(self.goal(book, (2, "again", 0), (("in", 2), ("else", 4))), (more + [no(SURE), no(again)], letters))
        self.assertEqual(self.goal(book, (6, "hold", 0), (("past", 2),)),
                         (inner + [no(guard), no(("le", x, ("size", row(3))))], letters + (("loop", 2, "s"),)))

    def test_places_of_a_whiles_guard_stand_at_its_head(self):
        block = f"""(row s (room (num 3))) (while (le (read (row s) (name x)) (name left2)) ({YES}) ((set x (num 1)))) (give (num 0))"""
        book = book_of(work(own="(x number) (s row)", block=block.replace("(name left2)", "(name a)")))
        place = within(name(0), ("room", ("num", 3)))
        begin = [SPENDS, ("le", NOUGHT, ("num", 3)), SURE, SURE]
        self.assertEqual(self.goal(book, (2, "place", 0)), (begin + [no(place)], (("loop", 2, "x"),)))
        guard = ("le", ("read", ("room", ("num", 3)), name(0)), name(1))
        left = ("le", NOUGHT, ("add", name(2), LESS_ONE))
        self.assertEqual(self.goal(book, (2, "round", 0), (("in", 2),)),
                         (begin + [place, guard, no(left)], (("loop", 2, "x"), A, ("loop", 2, "left"))))

    def test_what_is_written_by_dos_and_rows_within(self):
        callee = work("v", letters="", own="")
        block = f"""(while {YES} () ((do x v ()) (row s (room (num 2))) (while {NO} () ((put t (num 0) (num 1))))))
                    (hold (eq (add (name x) (name y)) (add (size (row s)) (size (row t))))) (give (num 0))"""
        book = book_of(work(own="(x number) (y number) (s row) (t row)", block=block), callee)
        hold = ("eq", ("add", name(0), NOUGHT), ("add", ("size", row(1)), ("size", row(2))))
        self.assertEqual(self.goal(book, (6, "hold", 0), (("past", 1),)),
                         ([SPENDS, no(SURE), no(hold)], (("loop", 1, "x"), ("loop", 1, "s"), ("loop", 1, "t"))))

    def test_gives(self):
        block = "(if (le (name a) (num 0)) ((give (add (name a) (num 1)))) ()) (give (num 5))"
        book = book_of(work(gives="(le (name given) (name a)) (le (num 0) (name given))", block=block))
        guard, given = ("le", name(0), NOUGHT), ("add", name(0), ONE)
        self.assertEqual(self.goal(book, (2, "gives", 1), (("then", 1),)),
                         ([SPENDS, guard, ("le", given, name(0)), no(("le", NOUGHT, given))], (A,)))
        self.assertEqual(self.goal(book, (3, "gives", 0), (("else", 1),)), ([SPENDS, no(guard), no(("le", ("num", 5), name(0)))], (A,)))
        book = book_of(work(letters="(r row)", own="(s row)", result="row", gives="(le (size (row given)) (num 2))",
                            block="(row s (row r)) (put s (num 0) (num 1)) (give (row s))"))
        given = ("with", row(0), NOUGHT, ONE)
        self.assertEqual(self.goal(book, (3, "gives", 0)), ([SPENDS, within(NOUGHT, row(0)), no(("le", ("size", given), ("num", 2)))], (R,)))

    def test_alls(self):
        need = "(all (num 0) (name a) (le (name own) (num 7)))"
        hold = "(all (name x) (size (row r)) (le (read (row r) (name own)) (name a)))"
        book = book_of(work(letters="(a number) (r row)", needs=need, block=f"(set x (num 2)) (hold {hold}) (hold {hold}) (give (num 0))"))
        own = ("name", "own")
        needed = ("all", NOUGHT, name(0), ("le", own, ("num", 7)))
        k, r = name(1), row(2)
        self.assertEqual(self.goal(book, (2, "hold", 0)),
                         ([needed, SPENDS, ("le", ("num", 2), k), ("le", ("add", k, ONE), ("size", r)), no(("le", ("read", r, k), name(0)))],
                          (A, ("fresh",), R)))
        # Supposed it is an all, and its letters stand ahead of the new one.
        r, k = row(1), name(2)
        supposed = ("all", ("num", 2), ("size", r), ("le", ("read", r, own), name(0)))
        self.assertEqual(self.goal(book, (3, "hold", 0)),
                         ([needed, SPENDS, supposed, ("le", ("num", 2), k), ("le", ("add", k, ONE), ("size", r)),
                           no(("le", ("read", r, k), name(0)))], (A, R, ("fresh",))))

    def test_alls_of_callees(self):
        callee = claim(letters="(b number) (s row)", needs="(all (num 0) (name b) (le (name own) (size (row s))))", gives="(all (name b) (num 4) (le (name b) (name own)))")
        book = book_of(work(letters="(a number) (r row)", own="", block="(use c ((add (name a) (num 1)) (row r))) (hold (le (num 1) (num 0))) (give (num 0))"), callee)
        handed, own = ("add", name(1), ONE), ("name", "own")
        self.assertEqual(self.goal(book, (1, "needs", 0)),
                         ([SPENDS, ("le", NOUGHT, name(0)), ("le", ("add", name(0), ONE), handed), no(("le", name(0), ("size", row(2))))],
                          (("fresh",), A, R)))
        handed = ("add", name(0), ONE)
        self.assertEqual(self.goal(book, (2, "hold", 0)),
                         ([SPENDS, ("all", NOUGHT, handed, ("le", own, ("size", row(1)))), ("all", handed, ("num", 4), ("le", handed, own)), no(NONE)], (A, R)))

    def test_letters_are_numbered_as_they_first_stand(self):
        book = book_of(work(letters="(a number) (b number) (r row)", needs="(le (name b) (num 0))",
                            block="(hold (le (read (row r) (name a)) (name b))) (hold (le (name a) (num 0))) (give (num 0))"))
        self.assertEqual(self.goal(book, (0, "spends", 0))[1], (("input", "b"),))
        self.assertEqual(self.goal(book, (1, "hold", 0)),
                         ([("le", name(0), NOUGHT), SPENDS, no(("le", ("read", row(1), name(2)), name(0)))], (("input", "b"), R, A)))


class TooGreat(Goals):
    def great(self, book, look, way=(), of="w"):
        self.assertEqual(self.goal(book, look, way, of), (None, ()))

    def fits(self, book, look, way=(), of="w"):
        self.assertTrue(is_bundle(self.goal(book, look, way, of)[0]))

    def test_sixty_sayings(self):
        """The needs, the begin and each hold ahead are supposed, and the contrary stands there, too."""
        block = f"(hold {YES}) " * 30 + "(use c ((name a))) " * 6
        callee = claim(gives=f"{YES} {YES} {YES} {YES}")
        for needs, sayings in ((4, 60), (4, 60)):
            book = book_of(work(needs=f"{YES} " * needs, block=f"{block} (hold {YES}) (hold {YES}) (give (num 0))"), callee)
            self.assertEqual(len(self.goal(book, (37, "hold", 0))[0]), 4 + 1 + 30 + 24 + 1)
            self.great(book, (38, "hold", 0))
        # The contrary of an all is three sayings.
        hold = "(hold (all (num 0) (num 5) (le (name own) (name a))))"
        for needs, fits in ((2, True), (3, False)):
            book = book_of(work(needs=f"{YES} " * needs, block=f"{block} {hold} (give (num 0))"), callee)
            (self.fits if fits else self.great)(book, (37, "hold", 0))

    def test_twenty_four_letters(self):
        """Three whiles with seven letters each, and the inputs."""
        letters = "(a number) (b number) (c number) (d number)"
        own = "(x number) (y number) (z number) (u number) (v number) (w number)"
        whole = "(add (add (name x) (add (name y) (name z))) (add (name u) (add (name v) (name w))))"
        sets = " ".join([f"(set {letter} (num 1))" for letter in "xyzuvw"])
        block = f"(while {NO} ((le {whole} (name left))) ({sets})) " * 3
        holds = "(hold (le (add (name a) (name b)) (name c))) (hold (le (name d) (num 0))) (give (num 0))"
        book = book_of(work(letters=letters, own=own, block=block + holds))
        way = (("past", 1), ("past", 8), ("past", 15))
        self.assertEqual(len(self.goal(book, (22, "hold", 0), way)[1]), 24)
        self.fits(book, (22, "hold", 0), way)
        self.great(book, (23, "hold", 0), way)

    def test_two_thousand_tuples(self):
        tree = "(name x)"
        for _ in range(4):
            tree = f"(add {tree} {tree})"
        many = "(num 1)"
        for _ in range(5):
            many = f"(add {many} (num 1))"
        # y has 3 times 511 tuples and 2 then, z 16 times 27 and 15, u 12: with those beside them just two thousand.
        sets = f"""(set x {tree}) (set x {tree}) (set y (add (name x) (add (name x) (name x)))) (set x (add {many} {many}))
                   (set x (add (name x) (add (num 1) (num 1)))) (set z {tree}) (set u (mul 1 {many}))"""
        hold = "(hold (eq (name y) (add (name z) {}))) (give (num 0))"
        own = "(x number) (y number) (z number) (u number)"
        book = book_of(work(own=own, block=f"{sets} {hold.format('(name u)')}"))
        self.fits(book, (8, "hold", 0))
        self.assertEqual(tuples_in(self.goal(book, (8, "hold", 0))[0]), 2000)
        self.great(book_of(work(own=own, block=f"{sets} {hold.format('(mul 1 (name u))')}")), (8, "hold", 0))

    def test_what_is_far_greater_is_no_matter_where_it_does_not_stand(self):
        block = "(set x (add (name x) (name x))) " * 33 + f"(hold {YES}) (hold (le (name x) (num 0))) (hold {YES}) (give (num 0))"
        book = book_of(work(block=block))
        self.fits(book, (34, "hold", 0))
        self.great(book, (35, "hold", 0))
        self.great(book, (36, "hold", 0))

    # Behind so many, and one more with one add alone, x is 38 within one another.
    DEEP = "(set x (add (add (name x) (num 1)) (num 1))) " * 18

    def test_forty_within_one_another(self):
        hold = "(hold (le (name x) (num 0))) (give (num 0))"
        self.fits(book_of(work(block=f"{self.DEEP} {hold}")), (19, "hold", 0))
        self.fits(book_of(work(block=f"{self.DEEP} (set x (add (name x) (num 1))) {hold}")), (20, "hold", 0))
        self.great(book_of(work(block=f"{self.DEEP} (set x (add (add (name x) (num 1)) (num 1))) {hold}")), (20, "hold", 0))

    def test_behind_what_is_too_great_all_is(self):
        # The guard has forty within one another, its not one more.
        block = f"{self.DEEP} (set x (add (add (name x) (num 1)) (num 1))) (if (le (name x) (num 0)) () ()) (give (num 0))"
        book = book_of(work(block=block, gives=YES))
        self.fits(book, (21, "gives", 0), (("then", 20),))
        self.great(book, (21, "gives", 0), (("else", 20),))


def tuples_in(thing):
    return sum(map(tuples_in, thing)) + isinstance(thing, tuple) if isinstance(thing, (tuple, list)) else 0


class Asked(Goals):
    def test_names(self):
        book = book_of(work(), TRI)
        for thing in [*ANYTHING, "tri", "x", "W"]:
            if not isinstance(thing, float):
                with self.assertRaises(NoName) as caught:
                    goals_of(book, thing)
                self.assertEqual(caught.exception.name, thing)
                with self.assertRaises(NoName) as caught:
                    goal_number(book, thing, (0, "spends", 0), ())
                self.assertEqual(caught.exception.name, thing)

    def test_the_same_asked_again_tells_new_lists(self):
        book = book_of(work(needs=YES))
        one, other = goals_of(book, "w"), goals_of(book, "w")
        self.assertEqual(one, other)
        self.assertIsNot(one, other)
        one[0][2].clear()
        one.clear()
        self.assertEqual(goals_of(book, "w"), other)

    def test_numbers(self):
        block = f"(if {YES} ((hold {YES})) ()) (while {YES} ({YES}) ()) (give (num 0))"
        book = book_of(work(block=block, gives=YES), claim(gives=YES))
        for of in ("w", "c"):
            for number, (way, look, _, _) in enumerate(goals_of(book, of)):
                self.assertEqual(goal_number(book, of, look, way), number)
        for look, way in (((0, "spends", 1), ()), ((0, "spends", 0), (("then", 1),)), ((2, "hold", 0), ()), ((2, "hold", 0), (("else", 1),)),
                          ((3, "round", 0), (("then", 1),)), ((3, "round", 0), (("then", 1), ("past", 3))), ((9, "place", 0), ()),
                          ((1, "needs", 0), ()), ((4, "gives", 0), (("then", 1), ("in", 3))), (None, None), ("gives", 4), ((), ())):
            self.assertIsNone(goal_number(book, "w", look, way))


if __name__ == "__main__":
    unittest.main()
