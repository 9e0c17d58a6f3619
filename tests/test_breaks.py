"""What is told with a break: its way, and what the way's fresh letters have."""

import unittest

from books import NO, NO_WORTH, YES, book_of, claim, work
from leapwork.walk import walk

A = ("input", "a")


class Breaks(unittest.TestCase):
    def broken(self, book, inputs, look, way, met, owner="w", name="w"):
        end, _, _ = walk(book, name, inputs)
        self.assertEqual(end[:3], ("break", owner, look))
        self.assertEqual((end[3], end[4]), (way, met))
        self.assertIsInstance(end[3], tuple)

    def test_inputs_and_no_steps(self):
        row = (2, ((0, 5),))
        book = book_of(work(letters="(a number) (r row)", spends="(num -1)"))
        self.broken(book, (7, row), (0, "spends", 0), (), {A: 7, ("input", "r"): row})
        # Own letters, however they were written, are not fresh.
        book = book_of(work(letters="(a number) (r row)", own="(x number) (s row)",
                            block=f"(set x (num 4)) (row s (row r)) (put s (num 0) (num 1)) (hold {NO}) (give (num 0))"))
        self.broken(book, (7, row), (4, "hold", 0), (), {A: 7, ("input", "r"): row})
        self.broken(book_of(work(letters="", block=f"(hold {NO}) (give (num 0))")), (), (1, "hold", 0), (), {})

    def test_steps_at_ifs(self):
        block = f"""(if (le (name a) (num 0)) ((if (le (name a) (num -5)) () ((hold {NO})))) ((hold (le (name a) (num 9)))))
                    (hold (not (eq (name a) (num -6)))) (give (num 0))"""
        book = book_of(work(block=block))
        self.broken(book, (-1,), (3, "hold", 0), (("then", 1), ("else", 2)), {A: -1})
        self.broken(book, (10,), (4, "hold", 0), (("else", 1),), {A: 10})
        self.broken(book, (-6,), (5, "hold", 0), (("then", 1), ("then", 2)), {A: -6})
        book = book_of(claim(block=f"(if {YES} ((if (le (name a) (num 0)) () ())) ()) (hold {NO})"))
        self.broken(book, (3,), (3, "hold", 0), (("then", 1), ("else", 2)), {A: 3}, "c", "c")
        book = book_of(claim(block=f"(if {YES} ((if (le (name a) (num 0)) () ())) ())", gives=NO))
        self.broken(book, (0,), (3, "gives", 0), (("then", 1), ("then", 2)), {A: 0}, "c", "c")

    def test_dos_ahead_on_the_way(self):
        book = book_of(work(own="(x number) (y number) (t row)", spends="(num 99)",
                            block=f"(do x v ((num 5))) (do y v ((name x))) (do t u ()) (set x (num 1)) (hold {NO}) (give (num 0))"),
                       work("v", block="(give (mul 2 (name a)))"),
                       work("u", letters="", own="(t row)", result="row", block="(row t (room (num 3))) (give (row t))"))
        self.broken(book, (7,), (5, "hold", 0), (), {A: 7, ("do", 1): 10, ("do", 2): 20, ("do", 3): (3, ())})
        # The do at whose looks the run breaks has given nothing.
        book = book_of(work(block="(do x v ((num 5))) (do x v ((num -5))) (give (num 0))", spends="(num 99)"),
                       work("v", needs="(le (num 0) (name a))", block="(give (mul 2 (name a)))"))
        self.broken(book, (7,), (2, "needs", 0), (), {A: 7, ("do", 1): 10})

    def test_the_first_place_at_which_an_all_is_not_so(self):
        saying = "(all (num -2) (num 9) (le (name own) (name a)))"
        book = book_of(work(block=f"(hold {saying}) (give (num 0))"))
        self.broken(book, (3,), (1, "hold", 0), (), {A: 3, ("fresh",): 4})
        self.broken(book, (-9,), (1, "hold", 0), (), {A: -9, ("fresh",): -2})
        # Of a need, over what is handed; it is the caller's.
        book = book_of(work(block="(use c ((add (name a) (num 1)))) (give (num 0))"), claim(needs=saying))
        self.broken(book, (3,), (1, "needs", 0), (), {A: 3, ("fresh",): 5})
        book = book_of(work(gives=saying.replace("(name a)", "(add (name given) (name a))"), block="(give (num 2))"))
        self.broken(book, (3,), (1, "gives", 0), (), {A: 3, ("fresh",): 6})

    def test_the_way_is_that_of_the_owners_frame(self):
        book = book_of(work(block=f"(if {YES} ((do x v ((num 3)))) ()) (give (num 0))", spends="(num 99)"),
                       work("v", block=f"(set x (num 1)) (if {NO} () ((hold (le (name a) (num 2))))) (give (num 0))"))
        self.broken(book, (7,), (3, "hold", 0), (("else", 2),), {A: 3}, "v")
        book = book_of(work(block=f"(if {YES} ((use c ((num 3)))) ()) (give (num 0))"),
                       claim(block=f"(if {NO} () ((if {YES} ((hold (le (name a) (num 2)))) ())))"))
        self.broken(book, (7,), (3, "hold", 0), (("else", 1), ("then", 2)), {A: 3}, "c")
        # Also of a frame of the same text.
        book = book_of(work(block="(if (le (name a) (num 0)) ((hold (le (num 0) (name a))) (give (num 0))) ()) "
                                  "(do x w ((add (name a) (num -2)))) (give (num 0))", spends="(mul 99 (add (name a) (num 2)))"))
        self.broken(book, (3,), (2, "hold", 0), (("then", 1),), {A: -1})

    def test_a_while_has_what_came_since_its_head_was_come_to_last(self):
        block = """(while (le (name x) (num 9)) ((le (name x) (num 20)))
                     ((do y v ((name x))) (if (le (name x) (num 3)) ((set x (add (name x) (num 2)))) ((set x (add (name x) (num 1)))))
                      (hold (le (name x) (name a))))) (hold (le (name x) (num 9))) (give (num 0))"""
        book = book_of(work(block=block, spends="(num 999)"), work("v", block="(give (mul 2 (name a)))"))

        def met(a, x, y, left, more):
            return {A: a, ("loop", 1, "x"): x, ("loop", 1, "y"): y, ("loop", 1, "left"): left, **more}
        self.broken(book, (1,), (6, "hold", 0), (("in", 1), ("then", 3)), met(1, 0, 0, 999, {("do", 2): 0}))
        self.broken(book, (3,), (6, "hold", 0), (("in", 1), ("then", 3)), met(3, 2, 0, 988, {("do", 2): 4}))
        self.broken(book, (5,), (6, "hold", 0), (("in", 1), ("else", 3)), met(5, 5, 8, 966, {("do", 2): 10}))
        self.broken(book, (99,), (7, "hold", 0), (("past", 1),), met(99, 10, 18, 911, {}))

    def test_keeps_round_and_again(self):
        block = "(while (le (name x) (num 9)) ((le (name x) (name a))) ((set x (add (name x) (num 1))))) (give (num 0))"
        book = book_of(work(block=block, spends="(num 3)"))
        # The head isn't come to yet.
        self.broken(book, (-1,), (1, "keeps", 0), (), {A: -1})

        def met(a, x, left):
            return {A: a, ("loop", 1, "x"): x, ("loop", 1, "left"): left}
        # Behind a round's last statement the head is that of this round.
        self.broken(book, (0,), (1, "again", 0), (("in", 1),), met(0, 0, 3))
        self.broken(book, (1,), (1, "again", 0), (("in", 1),), met(1, 1, 2))
        self.broken(book, (9,), (1, "round", 0), (("in", 1),), met(9, 3, 0))

    def test_places_of_a_guard(self):
        block = "(row s (room (num 2))) (while (le (read (row s) (name x)) (num 0)) () ((set x (add (name x) (num 1))))) (give (num 0))"
        book = book_of(work(own="(x number) (y number) (s row)", block=block))
        self.broken(book, (7,), (2, "place", 0), (), {A: 7, ("loop", 2, "x"): 2, ("loop", 2, "left"): 7})
        # The letters written anywhere within; those that aren't are not fresh.
        block = f"""(row s (room (num 2))) (while (le (name y) (num 0)) () ((if {NO} ((put s (num 0) (num 1)) (row t (row s)) (do z v ())) ())
                    (while {NO} () ((set u (num 1)))) (set x (read (row s) (num 5))))) (give (num 0))"""
        book = book_of(work(own="(x number) (y number) (z number) (u number) (s row) (t row)", block=block))
        outer = {"s": (2, ()), "t": (0, ()), "z": 0, "u": 0, "x": 0, "left": 9}
        self.broken(book, (7,), (9, "place", 0), (("in", 2), ("else", 3), ("past", 7)),
                    {A: 7, **{("loop", 2, letter): worth for letter, worth in outer.items()},
                     ("loop", 7, "u"): 0, ("loop", 7, "left"): 8})

    def test_whiles_within_one_another(self):
        block = """(while (le (name x) (num 5)) ()
                     ((set y (num 0))
                      (while (le (name y) (name x)) () ((set y (add (name y) (num 1))) (hold (le (add (name x) (name y)) (name a)))))
                      (set x (add (name x) (num 1))) (hold (not (eq (name x) (num 3)))))) (hold (le (num 99) (name a))) (give (num 0))"""
        book = book_of(work(block=block, spends="(num 999)"))
        outer = {("loop", 1, "x"): 1, ("loop", 1, "y"): 1, ("loop", 1, "left"): 997}
        self.broken(book, (2,), (5, "hold", 0), (("in", 1), ("in", 3)),
                    {A: 2, **outer, ("loop", 3, "y"): 1, ("loop", 3, "left"): 995})
        # Past the inner one in this round.
        outer = {("loop", 1, "x"): 2, ("loop", 1, "y"): 2, ("loop", 1, "left"): 994}
        self.broken(book, (8,), (7, "hold", 0), (("in", 1), ("past", 3)),
                    {A: 8, **outer, ("loop", 3, "y"): 3, ("loop", 3, "left"): 990})
        # Behind both nothing of the inner one is left.
        book = book_of(work(block=block.replace("(hold (not (eq (name x) (num 3))))", ""), spends="(num 999)"))
        self.broken(book, (50,), (7, "hold", 0), (("past", 1),),
                    {A: 50, ("loop", 1, "x"): 6, ("loop", 1, "y"): 6, ("loop", 1, "left"): 999 - 6 - 21})

    def test_left_is_none_where_it_has_none(self):
        block = "(while (le (name x) (num 2)) () ((set x (add (name x) (num 1))) (hold (le (name x) (num 1))))) (give (num 0))"
        book = book_of(work(block=block, spends=NO_WORTH))
        self.broken(book, (7,), (3, "hold", 0), (("in", 1),), {A: 7, ("loop", 1, "x"): 1, ("loop", 1, "left"): None})

    def test_each_break_is_told_anew(self):
        book = book_of(work(block=f"(hold {NO}) (give (num 0))"))
        walk(book, "w", (3,))[0][4].clear()
        self.broken(book, (3,), (1, "hold", 0), (), {A: 3})


if __name__ == "__main__":
    unittest.main()
