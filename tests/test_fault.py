import copy
import random
import unittest

from leapwork.texts import fault
from sample_texts import (
    A, ALL, CLAIM, FULL, GIVE, GIVEN, LEFT, LESS_ONE, N, NOTION, NOUGHT, NUMBERS, ONE, OWN, R, RICH, ROW_WORK,
    S, X, YES, claim, deep, ifs, itself, notion, wide, work,
)
from samples import ANYTHING, nested

class Fault(unittest.TestCase):
    def right(self, *texts):
        for text in texts:
            before = copy.deepcopy(text)
            self.assertIsNone(fault(text), text)
            self.assertEqual(text, before)

    def broken(self, word, *texts):
        for text in texts:
            told = fault(text)
            self.assertEqual(told, word, text)

    def of_work(self, word, *statements):
        """Each statement breaks so by itself, and within a while, an if, and another if's other block."""
        for statement in statements:
            self.broken(word, work(statements=(statement, GIVE)),
                        work(statements=(("while", YES, (), (statement,)), GIVE)),
                        work(statements=(("if", YES, (statement,), ()), GIVE)),
                        work(statements=(("if", YES, (), (("if", YES, (), (statement, GIVE)),)), GIVE)))

    def in_work(self, *statements):
        for statement in statements:
            self.right(work(statements=(statement, GIVE)), work(statements=(("while", YES, (), (statement,)), GIVE)))


class Right(Fault):
    def test_right_ones(self):
        self.right(FULL, CLAIM, NOTION, ROW_WORK, work(), claim(), notion(), work(letters=(), own=(), statements=(GIVE,)),
                   claim(letters=()), notion(letters=(("n", "number"),)))

    def test_a_text_may_name_itself_and_letters_may_be_called_as_texts(self):
        self.right(work(statements=(("do", "x", "w", ()), GIVE)), claim(statements=(("use", "c", ()),)),
                   work(letters=(("w", "number"),)), notion(letters=(("f", "number"),), more=("name", "f")),
                   work(needs=(("le", NOUGHT, ("notion", "w", ())),)))


class Form(Fault):
    def test_texts(self):
        for text in (FULL, CLAIM, NOTION):
            self.broken("form", list(text), text[:-1], text + (NOUGHT,), text[1:], (text,), [text], ("text", *text[1:]),
                        (text[0].upper(), *text[1:]), (None, *text[1:]), ((text[0],), *text[1:]))
            for at in range(1, len(text)):
                for part in (None, True, [], {}, [text[at]], 1.5, ("form",), (("form",),), (None,), ((),)):
                    self.broken("form", (*text[:at], part, *text[at + 1:]))
        self.broken("form", work(result="Row"), work(result="numbers"), work(result=("number",)), notion(floor="0"),
                    notion(floor=True), notion(floor=()), ("work",), ("claim",), ("notion",), (), ("notion", "f", 0))

    def test_letters(self):
        for letters in ((("a",),), (("a", "number", 1),), (("a", "Number"),), (("a", None),), ((1, "number"),),
                        ((None, "row"),), (["a", "number"],), ("an",), [("a", "number")], (("a", "number"), None),
                        ((("a",), "row"),), ((True, "row"),)):
            self.broken("form", work(letters=letters), work(own=letters), claim(letters=letters), notion(letters=letters))

    def test_sayings_and_terms(self):
        for bad in (A, None, ("le", A), ("le", A, R), ("no", A, A), ["le", A, A], ("not", ALL), ("and", ALL, YES), (),
                    ("all", NOUGHT, ONE, ALL), ("all", NOUGHT, ONE), ("all", NOUGHT, R, YES), ("all", NOUGHT, ONE, A),
                    ("le", A, ("num", True)), ("le", A, ("name", 0)), ("le", A, ("name", None)), ("le", A, ("size", ("row", 0))),
                    ("le", A, ("notion", 0, ())), ("le", A, ("notion", "f", [A])), ("le", A, ("notion", "f", (YES,)))):
            self.broken("form", work(needs=(bad,)), work(gives=(YES, bad)), claim(needs=(bad,)), claim(gives=(YES, bad)),
                        claim(statements=(("hold", bad),)), claim(statements=(("if", bad, (), ()),)))
            self.of_work("form", ("hold", bad), ("if", bad, (), ()), ("while", bad, (), ()), ("while", YES, (bad,), ()),
                         ("while", YES, (YES, bad), ()))
        for bad in (R, YES, ALL, None, 1, ("num", "1"), ("num", True), ("num",), ("add", A), ("mul", A, 2), ("read", A, A),
                    ("size", A), ("div", A, 0), ("div", A, -1), ("mod", A, 10 ** 9 + 1), ("mod", A, True), ("div", A, ONE),
                    ("name", 1), ("name",), ("notion", "f"), ("notion", "f", A), ("row", "r"), ("with", R, A, A), ("room", A)):
            self.broken("form", work(spends=bad), claim(spends=bad), notion(zero=bad), notion(more=bad))
            self.of_work("form", ("set", "x", bad), ("put", "s", bad, A), ("put", "s", A, bad))
            if bad[:1] not in (("row",), ("with",), ("room",)) if isinstance(bad, tuple) else True:
                self.of_work("form", ("give", bad), ("do", "x", "w", (bad,)), ("use", "c", (A, bad)))
        for k in (1, 10 ** 9):
            self.right(work(spends=("div", A, k)), work(spends=("mod", A, k)))

    def test_rows(self):
        for bad in (A, YES, None, ("row",), ("row", 1), ("row", R), ("room", R), ("with", A, A, A), ("with", R, A), ["row", "r"]):
            self.of_work("form", ("row", "s", bad))

    def test_statements(self):
        self.of_work("form", ("set", "x"), ("set", "x", A, A), ("set", 1, A), ("set", ("name", "x"), A), ("put", "s", A),
                     ("put", "s", A, A, A), ("put", None, A, A), ("row", "s"), ("row", "s", R, R), ("row", R, R),
                     ("do", "x", "w"), ("do", "x", "w", A), ("do", "x", "w", [A]), ("do", "x", 1, ()), ("do", 1, "w", ()),
                     ("do", "w", ()), ("if", YES, ()), ("if", YES, (), (), ()), ("if", YES, [], ()), ("if", YES, (), GIVE),
                     ("if", YES, (), None), ("while", YES, ()), ("while", YES, (), [GIVE]), ("while", YES, YES, ()),
                     ("while", YES, None, ()), ("while", YES, (), (), ()), ("hold",), ("hold", YES, YES), ("use", "c"),
                     ("use", "c", A), ("use", "c", ["a"]), ("use", 1, ()), ("use", "x", "c", ()), ("give",), ("give", A, A),
                     (), ("no",), ("Set", "x", A), ["set", "x", A], None, 1, True, "give", ("give", None), (("give",), A),
                     (None,), ("if", YES, (("no",),), ()), ("while", YES, (), (("hold", YES), ("hold", A))))

    def test_behind_row_and_give_any_row_term_has_a_form(self):
        self.broken("where", work(statements=(("row", "s", ("with", R, A, A)), GIVE)),
                    work(result="row", statements=(("give", ("with", R, A, A)),)),
                    work(result="row", statements=(("give", ("room", A)),)))

    def test_anything(self):
        for thing in ANYTHING:
            self.broken("form", thing, (thing,), [thing], ("work", thing), ("claim", thing), ("notion", thing))
            if not isinstance(thing, str):
                for text in (FULL, CLAIM, NOTION):
                    self.broken("form", (text[0], thing, *text[2:]))
            if thing != ():
                self.broken("form", work(letters=thing), work(own=thing), claim(letters=thing), notion(letters=thing),
                            work(result=thing), work(needs=thing), claim(gives=thing), work(spends=thing),
                            claim(statements=thing), work(statements=(GIVE, thing)), claim(statements=(thing,)),
                            notion(zero=thing), notion(more=thing))
        self.broken("form", nested(FULL, 90), nested((), 100), ("work", nested("w", 90), *FULL[2:]),
                    work(spends=nested(A, 95)), work(statements=nested(GIVE, 95)))

    def test_very_deep_ones(self):
        # The form may be right as deep as that; the sizes are not.
        self.broken("sizes", work(spends=deep(95)), work(statements=ifs(45) + (GIVE,)), notion(zero=("num", 10 ** 5000)),
                    work(letters=(("a", "number"),), needs=(("le", deep(90), A),)))
        saying = YES
        for _ in range(90):
            saying = ("not", saying)
        self.broken("sizes", work(needs=(saying,)), claim(statements=(("if", saying, (), ()),)))
        self.broken("form", work(spends=("add", deep(95), None)), work(statements=ifs(45, (None,)) + (GIVE,)))


class Names(Fault):
    BAD = ("", "abcdefghi", "A", "aB", "a1", "a_b", "left", "given", "own", "a b", "\u00e9", "\u0430")

    def test_names_of_texts(self):
        for name in self.BAD:
            for text in (FULL, CLAIM, NOTION):
                self.broken("names", (text[0], name, *text[2:]))
        for name in ("a", "abcdefgh", "work", "num", "row"):
            self.right(("claim", name, *CLAIM[2:]))

    def test_letters(self):
        for name in self.BAD:
            letters = (("a", "number"), ("r", "row"), (name, "number"))
            self.broken("names", work(letters=letters), work(own=letters[2:]), claim(letters=letters),
                        notion(letters=letters + (("n", "number"),)))

    def test_letters_are_unlike(self):
        twice = (("a", "number"), ("b", "number"), ("a", "row"))
        same = (("a", "number"), ("a", "number"))
        self.broken("names", work(letters=twice), work(own=same), claim(letters=same), notion(letters=same),
                    work(letters=NUMBERS, own=(("b", "row"),)))

    def test_called_names(self):
        for name in self.BAD:
            term = ("notion", name, ())
            self.of_work("names", ("do", "x", name, ()), ("use", name, ()), ("hold", ("le", A, term)), ("set", "x", term))
            self.broken("names", work(needs=(("le", A, term),)), work(gives=(("le", A, ("size", ("room", term))),)),
                        work(spends=term), claim(needs=(YES, ("not", ("le", term, A)))), claim(spends=term),
                        claim(statements=(("use", name, ()),)), claim(statements=(("if", ("le", A, term), (), ()),)),
                        notion(zero=term), notion(more=("notion", "g", (term,))))

    def test_letters_that_stand(self):
        for name in ("b", "y", "abcdefghi", "A", "", "f", "w"):
            term, row = ("name", name), ("row", name)
            self.of_work("names", ("set", name, A), ("put", name, A, A), ("row", name, R), ("do", name, "w", ()),
                         ("set", "x", term), ("put", "s", term, A), ("put", "s", A, term), ("row", "s", row),
                         ("row", "s", ("room", term)), ("do", "x", "w", (term,)), ("do", "x", "w", (row,)),
                         ("if", ("le", A, term), (), ()), ("while", ("le", A, term), (), ()),
                         ("while", YES, (("le", A, term),), ()), ("hold", ("le", A, term)), ("use", "c", (A, term)),
                         ("use", "c", (row,)), ("give", term), ("give", row))
            saying = ("all", NOUGHT, A, ("le", ("read", row, ONE), OWN))
            self.broken("names", work(needs=(saying,)), work(gives=(saying,)), work(spends=term), claim(needs=(saying,)),
                        claim(gives=(YES, saying)), claim(spends=term), claim(statements=(("hold", saying),)),
                        notion(zero=term), notion(more=("size", row)))

    def test_kept_letters_break_no_names(self):
        for letter in (LEFT, GIVEN, OWN):
            self.broken("where", work(spends=letter), work(needs=(("le", letter, A),)), notion(zero=letter))
        self.broken("where", work(statements=(("do", "left", "w", ()), GIVE)), work(statements=(("do", "given", "w", ()), GIVE)),
                    work(statements=(("set", "own", A), GIVE)))


class Kinds(Fault):
    def test_numbers_and_rows(self):
        number, row = ("row", "a"), ("name", "r")
        own_number, own_row = ("row", "x"), ("name", "s")
        self.of_work("kinds", *[("set", "x", ("size", bad)) for bad in (number, own_number)],
                     *[("set", "x", bad) for bad in (row, own_row)], ("set", "s", A), ("set", "r", A), ("put", "x", A, A),
                     ("put", "a", A, A), ("put", "s", row, A), ("put", "s", A, own_row), ("row", "x", R), ("row", "a", R),
                     ("row", "s", number), ("row", "s", own_number), ("row", "s", ("room", row)),
                     ("do", "x", "w", (A, number)), ("do", "s", "w", (row,)), ("if", ("le", A, row), (), ()),
                     ("while", ("le", own_row, A), (), ()), ("while", YES, (("le", A, row),), ()),
                     ("hold", ("all", A, row, YES)), ("hold", ("all", A, A, ("le", row, OWN))), ("use", "c", (number,)),
                     ("use", "c", (A, own_row)), ("give", row))
        for saying in (("le", A, row), ("le", A, ("read", number, A)), ("all", A, A, ("le", OWN, ("size", number)))):
            self.broken("kinds", work(needs=(saying,)), work(gives=(YES, saying)), claim(needs=(YES, saying)),
                        claim(gives=(saying,)), claim(statements=(("hold", saying),)))
        self.broken("kinds", work(spends=row), claim(spends=("size", number)), notion(zero=("name", "r")),
                    notion(more=("size", ("row", "n"))))

    def test_left_and_own_as_rows(self):
        for row in (("row", "left"), ("row", "own")):
            saying = ("le", ("size", row), A)
            self.of_work("kinds", ("hold", saying), ("while", YES, (saying,), ()), ("row", "s", row), ("put", row[1], A, A),
                         ("row", row[1], R), ("use", "c", (row,)), ("hold", ("all", A, A, saying)), ("set", "x", ("size", row)))
            self.broken("kinds", work(needs=(saying,)), work(gives=(saying,)), work(spends=("size", row)),
                        claim(needs=(saying,)), claim(statements=(("hold", saying),)), notion(zero=("size", row)),
                        notion(more=("read", row, N)))

    def test_given_is_as_the_result_wherever_it_stands(self):
        row = ("row", "given")
        self.broken("kinds", work(gives=(("le", ("size", row), A),)), work(result="row", gives=(("le", A, GIVEN),),
                                                                          statements=(("give", R),)),
                    work(needs=(("le", ("size", row), A),)), work(spends=("size", row)),
                    work(gives=(("all", A, A, ("le", OWN, ("size", row))),)))
        self.of_work("kinds", ("row", "s", row), ("hold", ("le", A, ("size", row))), ("put", "given", A, A),
                     ("row", "given", R))
        self.broken("kinds", work(result="row", statements=(("set", "given", A), ("give", R))))
        # Claims and notions have no result: there it stands where it may not.
        self.broken("where", claim(gives=(("le", A, GIVEN),)), claim(gives=(("le", A, ("size", row)),)),
                    notion(zero=GIVEN), notion(zero=("size", row)), work(needs=(("le", A, GIVEN),)))

    def test_what_a_work_gives_is_as_its_result(self):
        self.of_work("kinds", ("give", R), ("give", ("room", A)), ("give", ("with", R, A, A)))
        self.broken("kinds", work(result="row", statements=(("give", A),)),
                    work(result="row", statements=(("if", YES, (("give", R),), (("give", A),)),)))

    def test_what_a_do_gives_is_of_any_kind(self):
        self.in_work(("do", "x", "w", ()), ("do", "s", "w", ()))

    def test_a_notions_last_letter(self):
        self.broken("kinds", notion(letters=()), notion(letters=(("n", "row"),)),
                    notion(letters=(("n", "number"), ("r", "row"))))
        self.right(notion(letters=(("n", "number"),)), notion(letters=(("r", "row"), ("m", "number"), ("n", "number"))))

    def test_itself_in_more_by_its_own_kinds(self):
        self.right(notion(more=itself(R, LESS_ONE)))
        self.broken("kinds", notion(more=itself()), notion(more=itself(LESS_ONE)), notion(more=itself(N, LESS_ONE)),
                    notion(more=itself(R, R)), notion(more=itself(R, N, LESS_ONE)), notion(more=itself(LESS_ONE, R)),
                    notion(more=("add", itself(R, LESS_ONE), itself(LESS_ONE))), notion(more=("size", ("room", itself(N)))))
        # Of zero kinds are not asked, nor of other notions.
        self.broken("where", notion(zero=itself()), notion(zero=itself(R, LESS_ONE)))
        self.right(notion(more=("notion", "g", (R, R))), notion(zero=("notion", "g", ())))


class Where(Fault):
    def test_letters_of_needs_and_gives(self):
        for saying in (("le", A, LEFT), ("le", A, OWN), ("all", A, A, ("le", OWN, LEFT)), ("all", OWN, A, YES),
                       ("all", A, OWN, YES), ("all", A, ("add", OWN, ONE), ("le", OWN, A))):
            self.broken("where", work(needs=(saying,)), work(needs=(YES, saying)), work(gives=(saying,)),
                        work(gives=(YES, saying)), claim(needs=(YES, saying)), claim(gives=(YES, saying)))
        for saying in (("le", A, X), ("le", A, ("size", S)), ("all", A, A, ("le", OWN, X)), ("all", X, A, YES)):
            self.broken("where", work(needs=(YES, saying)), work(gives=(YES, saying)))
        for saying in (("le", A, GIVEN), ("all", GIVEN, GIVEN, ("le", OWN, GIVEN))):
            self.right(work(gives=(saying,)))
            self.broken("where", work(needs=(saying,)), claim(gives=(saying,)), claim(needs=(saying,)))

    def test_letters_of_spends(self):
        for term in (X, ("size", S), LEFT, GIVEN, OWN, ("add", A, LEFT)):
            self.broken("where", work(spends=term))
        for term in (LEFT, GIVEN, OWN):
            self.broken("where", claim(spends=term), notion(zero=term), notion(more=("add", N, term)))

    def test_letters_of_looks(self):
        self.in_work(("hold", ("le", LEFT, X)), ("while", YES, (("le", LEFT, X), ("all", LEFT, X, ("le", OWN, LEFT))), ()))
        self.of_work("where", ("hold", ("le", GIVEN, X)), ("hold", ("le", OWN, X)), ("hold", ("all", OWN, X, YES)),
                     ("hold", ("all", X, OWN, ("le", OWN, X))), ("while", YES, (("le", GIVEN, A),), ()),
                     ("while", YES, (YES, ("le", OWN, A)), ()), ("while", YES, (("all", A, OWN, YES),), ()))
        self.right(claim(statements=(("hold", ("le", LEFT, A)), ("hold", ("all", LEFT, A, ("le", OWN, LEFT))))))
        for saying in (("le", GIVEN, A), ("le", OWN, A), ("all", OWN, A, YES)):
            self.broken("where", claim(statements=(("hold", saying),)),
                        claim(statements=(("if", YES, (), (("hold", saying),)),)))

    def test_letters_of_what_a_work_does(self):
        for letter in (LEFT, GIVEN, OWN):
            self.of_work("where", ("set", "x", letter), ("put", "s", letter, A), ("put", "s", A, letter),
                         ("row", "s", ("room", letter)), ("do", "x", "w", (A, letter)), ("if", ("le", A, letter), (), ()),
                         ("while", ("le", letter, A), (), ()), ("use", "c", (letter,)), ("give", letter))
        self.broken("where", work(result="row", statements=(("row", "s", ("row", "given")), ("give", R))),
                    work(result="row", statements=(("give", ("row", "given")),)),
                    work(result="row", statements=(("do", "s", "w", (("row", "given"),)), ("give", R))))
        self.in_work(*[make(letter) for letter in (A, X, ("size", R), ("size", S)) for make in (
            lambda t: ("set", "x", t), lambda t: ("put", "s", t, t), lambda t: ("row", "s", ("room", t)),
            lambda t: ("do", "x", "w", (t,)), lambda t: ("if", ("le", t, t), (), ()), lambda t: ("use", "c", (t,)))])

    def test_letters_of_claims(self):
        for letter in (LEFT, GIVEN, OWN):
            self.broken("where", claim(statements=(("if", ("le", letter, A), (), ()),)),
                        claim(statements=(("use", "d", (letter,)),)))

    def test_no_notions_alls_withs_and_rooms_in_what_a_work_does(self):
        for term in (*RICH.values(), ("add", A, RICH["notion"]), ("read", ("with", R, A, A), A), ("read", R, RICH["room"])):
            self.of_work("where", ("set", "x", term), ("put", "s", term, A), ("put", "s", A, term), ("row", "s", ("room", term)),
                         ("do", "x", "w", (term,)), ("if", ("le", A, term), (), ()), ("while", ("not", ("le", term, A)), (), ()),
                         ("give", term))
            self.in_work(("hold", ("le", A, term)), ("while", YES, (("le", A, term), ALL), ()), ("use", "c", (term, A)))
            self.right(work(needs=(("le", A, term),)), work(gives=(("le", A, term),)), work(spends=term),
                       claim(needs=(("le", A, term),)), claim(spends=term), claim(statements=(("use", "c", (term,)),)),
                       claim(statements=(("if", ("le", A, term), (), ()),)), claim(statements=(("hold", ("le", A, term)),)))
        for row in (("with", R, A, A), ("room", A)):
            self.of_work("where", ("do", "x", "w", (A, row)))
            self.in_work(("use", "c", (A, row)))
            self.right(claim(statements=(("use", "c", (row,)),)))
            self.broken("where", work(result="row", statements=(("give", row),)))

    def test_what_is_behind_row(self):
        self.in_work(("row", "s", R), ("row", "s", S), ("row", "s", ("room", X)))
        self.of_work("where", ("row", "s", ("with", R, A, A)), ("row", "s", ("with", ("room", A), A, A)))

    def test_what_is_behind_a_claims_give(self):
        # A claim has none, which is told later than where things stand.
        self.broken("where", claim(statements=(("give", ("with", R, A, A)),)), claim(statements=(("give", ("room", A)),)),
                    claim(statements=(("give", LEFT),)), claim(statements=(("give", ("row", "given")),)))
        self.broken("ends", claim(statements=(("give", R),)), claim(statements=(("give", A),)))

    def test_guards_are_plain(self):
        self.of_work("where", ("if", ALL, (), ()), ("while", ALL, (), ()))
        self.broken("where", claim(statements=(("if", ALL, (), ()),)),
                    claim(statements=(("if", YES, (("if", ALL, (), ()),), ()),)))

    def test_what_is_written_is_an_own_letter(self):
        self.of_work("where", ("set", "a", A), ("put", "r", A, A), ("row", "r", S), ("do", "a", "w", ()), ("do", "r", "w", ()),
                     ("do", "left", "w", ()), ("do", "given", "w", ()), ("do", "own", "w", ()), ("set", "left", A),
                     ("set", "own", A), ("set", "given", A))
        self.broken("where", *[claim(statements=(statement,)) for statement in (
            ("set", "a", A), ("put", "r", A, A), ("row", "r", R), ("do", "a", "w", ()))])
        self.broken("where", claim(statements=(("if", YES, (("set", "a", A),), ()),)))

    def test_a_notion_itself(self):
        self.right(notion(more=("notion", "g", (itself(R, LESS_ONE),))), notion(more=itself(("with", R, N, N), LESS_ONE)),
                   notion(letters=(("a", "number"), ("n", "number")), more=itself(("mul", 2, N), LESS_ONE)))
        for last in (N, ("add", ("num", -1), N), ("add", N, ("num", -2)), ("add", N, ("mul", -1, ONE)), ("num", 0)):
            self.broken("where", notion(more=itself(R, last)))
        self.broken("where", notion(more=("add", itself(R, LESS_ONE), itself(R, LESS_ONE))),
                    notion(letters=(("a", "number"), ("n", "number")), more=itself(itself(A, LESS_ONE), LESS_ONE)),
                    notion(zero=itself(R, LESS_ONE)), notion(zero=itself(R, LESS_ONE), more=itself(R, LESS_ONE)),
                    notion(letters=(("m", "number"), ("n", "number")), more=itself(LESS_ONE, ("add", ("name", "m"), ("num", -1)))))


class Ends(Fault):
    def test_a_works_statements_end(self):
        both = ("if", YES, (GIVE,), (GIVE,))
        self.right(work(statements=(both,)), work(statements=(("if", YES, (both,), (("set", "x", A), both)),)),
                   work(statements=(("while", YES, (), (GIVE,)), GIVE)), work(statements=(("if", YES, (GIVE,), ()), GIVE)))
        self.broken("ends", work(statements=()), work(statements=(("set", "x", A),)),
                    work(statements=(("if", YES, (GIVE,), ()),)), work(statements=(("if", YES, (), (GIVE,)),)),
                    work(statements=(("if", YES, (both,), (("if", YES, (GIVE,), ()),)),)),
                    work(statements=(("while", YES, (), (GIVE,)),)), work(statements=(both, ("set", "x", A))),
                    work(statements=(("if", YES, (("while", YES, (), (GIVE,)),), (GIVE,)),)))

    def test_nothing_stands_behind_an_end(self):
        both = ("if", YES, (GIVE,), (GIVE,))
        for end in (GIVE, both, ("if", YES, (both,), (both,))):
            self.broken("ends", work(statements=(end, GIVE)), work(statements=(("if", YES, (end, ("set", "x", A)), ()), GIVE)),
                        work(statements=(("if", YES, (), (end, GIVE)), GIVE)),
                        work(statements=(("while", YES, (), (end, ("hold", YES))), GIVE)),
                        work(statements=(("while", YES, (), (("if", YES, (end, end), ()),)), GIVE)))
            self.right(work(statements=(("while", YES, (), (end,)), ("if", YES, (end,), ()), end)))

    def test_which_a_claim_has(self):
        self.right(claim(statements=()), claim(statements=(("if", YES, (), ()), ("hold", YES), ("use", "c", ()))))
        for statement in (("while", YES, (), ()), ("while", YES, (YES,), (("hold", YES),)), ("give", A), ("give", R)):
            self.broken("ends", claim(statements=(statement,)), claim(statements=(("if", YES, (), (statement,)),)),
                        claim(statements=(("if", YES, (("if", YES, (statement,), ()),), ()),)))


class Sizes(Fault):
    def test_letters(self):
        def letters(many, kind="number", begin=""):
            return tuple((begin + "klmnopq"[n], kind) for n in range(many))
        self.right(work(letters=letters(4), own=letters(6, begin="o"), statements=(GIVE,)), claim(letters=letters(4)),
                   notion(letters=letters(4)), notion(letters=letters(1)))
        self.broken("sizes", work(letters=letters(5)), work(own=letters(7)), claim(letters=letters(5)), notion(letters=letters(5)))
        rows = letters(4, "row")
        self.right(work(letters=rows, own=(("x", "number"),)), work(letters=(), own=rows), claim(letters=rows),
                   work(letters=rows[:2], own=rows[2:]))
        self.broken("sizes", work(letters=(), own=letters(5, "row")), work(letters=rows[:3], own=letters(2, "row", "o")),
                    work(letters=rows, own=(("x", "row"),)))

    def test_needs_gives_and_keeps(self):
        self.right(work(needs=(YES,) * 4, gives=(YES,) * 4), claim(needs=(YES,) * 4, gives=(ALL,) * 4))
        self.in_work(("while", YES, (YES,) * 4, ()))
        self.broken("sizes", work(needs=(YES,) * 5), work(gives=(YES,) * 5), claim(needs=(YES,) * 5), claim(gives=(YES,) * 5))
        self.of_work("sizes", ("while", YES, (YES,) * 5, ()))

    def test_statements(self):
        hold = ("hold", YES)
        self.right(work(statements=(hold,) * 39 + (GIVE,)), claim(statements=(hold,) * 40),
                   claim(statements=(("if", YES, (hold,) * 19, (hold,) * 19), hold)),
                   work(statements=(("while", YES, (), (hold,) * 38), GIVE)))
        self.broken("sizes", work(statements=(hold,) * 40 + (GIVE,)), claim(statements=(hold,) * 41),
                    claim(statements=(("if", YES, (hold,) * 19, (hold,) * 20), hold)),
                    work(statements=(("while", YES, (), (hold,) * 39), GIVE)))

    def test_ifs_and_whiles_within_one_another(self):
        self.right(claim(statements=ifs(4, (("hold", YES),))), work(statements=ifs(3, (("while", YES, (), ()),)) + (GIVE,)))
        self.broken("sizes", claim(statements=ifs(5)), work(statements=ifs(4, (("while", YES, (), ()),)) + (GIVE,)),
                    work(statements=(("while", YES, (), ifs(4)), GIVE)),
                    claim(statements=(("if", YES, (), (("if", YES, (), ifs(3)),)),)))
        self.right(claim(statements=(("if", YES, (), (("if", YES, (), ifs(2)),)),) + ifs(1)))

    def test_tuples_within_one_another(self):
        term = deep(8)
        self.right(work(spends=term), claim(spends=term), claim(needs=(("le", deep(7), A),)),
                   claim(gives=(("all", deep(7), deep(7), ("le", deep(6), A)),)), claim(statements=(("use", "c", (term, term)),)))
        self.in_work(("set", "x", term), ("put", "s", term, term), ("row", "s", ("room", deep(7))), ("do", "x", "w", (term,)),
                     ("if", ("le", A, deep(7)), (), ()), ("while", ("le", A, deep(7)), (("le", deep(7), A),), ()),
                     ("hold", ("not", ("le", deep(6), A))))
        self.broken("sizes", work(spends=deep(9)), claim(spends=deep(9)), claim(needs=(("le", deep(8), A),)),
                    claim(gives=(("all", deep(8), A, YES),)), claim(gives=(("all", A, A, ("le", deep(7), A)),)),
                    claim(statements=(("use", "c", (A, deep(9))),)), claim(statements=(("if", ("le", deep(8), A), (), ()),)))
        self.of_work("sizes", ("set", "x", deep(9)), ("put", "s", deep(9), A), ("put", "s", A, deep(9)),
                     ("row", "s", ("room", deep(8))), ("do", "x", "w", (deep(9),)), ("if", ("le", A, deep(8)), (), ()),
                     ("while", ("le", A, deep(8)), (), ()), ("while", YES, (("le", deep(8), A),), ()),
                     ("hold", ("not", ("le", deep(7), A))), ("use", "c", (deep(9),)))
        self.broken("sizes", work(statements=(("give", deep(9)),)))
        many = ("name", "n")
        for _ in range(7):
            many = ("add", many, ONE)
        self.right(notion(zero=many, more=many))
        self.broken("sizes", notion(zero=("add", many, ONE)), notion(more=("add", many, ONE)))

    def test_a_notions_places_are_one_too(self):
        inner = A
        for _ in range(3):
            inner = ("notion", "g", (inner,))
        self.right(work(spends=("add", inner, ONE)))
        self.broken("sizes", work(spends=("add", ("add", inner, ONE), ONE)))
        self.right(work(spends=wide(60)))
        self.broken("sizes", work(spends=wide(61)))

    def test_tuples_in_all(self):
        term = wide(57)
        self.right(work(needs=(("not", ("le", term, A)),) * 4, gives=(("le", A, wide(58)),)), claim(spends=wide(60)),
                   claim(statements=(("use", "c", (wide(60), wide(60))),)), claim(gives=(("all", A, wide(55), YES),)))
        self.broken("sizes", work(needs=(("not", ("le", wide(58), A)),)), work(gives=(("le", A, wide(59)),)),
                    claim(spends=wide(61)), claim(statements=(("use", "c", (A, wide(61))),)),
                    claim(gives=(("all", A, wide(56), YES),)), claim(statements=(("hold", ("le", A, wide(59))),)))
        self.of_work("sizes", ("hold", ("le", A, wide(59))), ("while", YES, (YES, ("le", A, wide(59))), ()),
                     ("use", "c", (wide(61),)))

    def test_floors(self):
        self.right(notion(0), notion(9))
        self.broken("sizes", notion(-1), notion(10), notion(10 ** 40))

    def test_written_numbers(self):
        def sized(n):
            yield from (work(spends=("num", n)), work(needs=(("le", A, ("mul", n, A)),)), notion(zero=("num", n)),
                        notion(more=("mul", n, N)), claim(gives=(("all", A, ("num", n), YES),)),
                        claim(statements=(("use", "c", (("room", ("num", n)),)),)))
            yield from [work(statements=(statement, GIVE)) for statement in (
                ("set", "x", ("num", n)), ("put", "s", A, ("mul", n, A)), ("row", "s", ("room", ("num", n))),
                ("hold", ("le", A, ("num", n))), ("while", YES, (("le", A, ("num", n)),), ()), ("do", "x", "w", (("num", n),)),
                ("if", ("le", A, ("num", n)), (), ()))]
        for n in (10 ** 30 - 1, 1 - 10 ** 30):
            self.right(*sized(n))
        for n in (10 ** 30, -10 ** 30):
            self.broken("sizes", *sized(n))

    def test_ways(self):
        split = ("if", YES, (), ())
        self.right(claim(statements=(split,) * 4 + (("hold", YES),)), claim(statements=((("if", YES, (split, split), ()),) + (split,) * 2)))
        self.broken("sizes", claim(statements=(split,) * 5))
        loop = ("while", YES, (), ())
        # Each while has a way through its round, and one goes past it.
        self.right(work(statements=(loop,) * 23 + (GIVE,)))
        self.broken("sizes", work(statements=(loop,) * 24 + (GIVE,)))
        # Three ends ahead, eight ways, then threefold: 24; and one more.
        three = ("if", YES, (split,), ())
        self.right(claim(statements=(split,) * 3 + (three,)))
        self.broken("sizes", work(statements=(split,) * 3 + (three, loop, GIVE)))


class Order(Fault):
    """Of several that are broken the first in the told order is told, each being asked of the whole."""

    FORM, NAMES, KINDS = ("set", "x"), ("set", "q", A), ("set", "x", ("name", "r"))
    WHERE, ENDS = ("set", "x", LEFT), ("if", YES, (GIVE, GIVE), ())
    SIZES = ("set", "x", deep(9))
    BREAKS = {"form": FORM, "names": NAMES, "kinds": KINDS, "where": WHERE, "ends": ENDS, "sizes": SIZES}

    def test_two_and_more_broken_at_once(self):
        words = list(self.BREAKS)
        chance = random.Random(17)
        for number, word in enumerate(words):
            self.broken(word, work(statements=(self.BREAKS[word], GIVE)))
            for other in words[number + 1:]:
                self.broken(word, work(statements=(self.BREAKS[word], self.BREAKS[other], GIVE)),
                            work(statements=(self.BREAKS[other], self.BREAKS[word], GIVE)))
            later = words[number:]
            for _ in range(5):
                mixed = [self.BREAKS[each] for each in chance.sample(later, len(later))]
                self.broken(word, work(statements=(*mixed, GIVE)), work(statements=(("while", YES, (), tuple(mixed)), GIVE)))

    def test_of_claims_and_notions(self):
        self.broken("form", ("claim", "C", (("a", "row"),) * 2, (), (YES,) * 9, LEFT, (3,)))
        self.broken("names", ("claim", "C", (("a", "row"),), (), (YES,) * 9, ("add", A, LEFT), (GIVE,)))
        self.broken("kinds", ("claim", "c", (("a", "row"),), (), (YES,) * 9, ("add", A, LEFT), (GIVE,)))
        self.broken("where", ("claim", "c", (("a", "number"),), (), (YES,) * 9, ("add", A, LEFT), (GIVE,)))
        self.broken("ends", ("claim", "c", (("a", "number"),), (), (YES,) * 9, A, (GIVE,)))
        self.broken("sizes", ("claim", "c", (("a", "number"),), (), (YES,) * 9, A, ()))
        self.broken("form", notion(True, (("A", "row"),), R, itself()))
        self.broken("names", notion(11, (("A", "row"),), LEFT, itself()))
        self.broken("kinds", notion(11, (("n", "row"),), LEFT, itself()))
        self.broken("where", notion(11, (("n", "number"),), LEFT, NOUGHT))
        self.broken("sizes", notion(11, (("n", "number"),), N, NOUGHT))


if __name__ == "__main__":
    unittest.main()
