import copy
import random
import unittest

from by_hand import any_row, any_term, form_by_hand, sum_by_hand, worth_by_hand
from leapwork.sums import form_of, sum_of
from samples import A, B, NOUGHT, ONE, OWN, R, S

C = ("name", "c")


def num(n):
    return ("num", n)


def total(*terms):
    whole = terms[0]
    for term in terms[1:]:
        whole = ("add", whole, term)
    return whole


def built(deep, step):
    term = A
    for _ in range(deep):
        term = step(term)
    return term


class SumOf(unittest.TestCase):
    def told(self, term, pairs, number):
        with self.subTest(term):
            self.assertEqual(sum_of(term), (pairs, number))
            self.assertIsInstance(sum_of(term), tuple)
            self.assertIsInstance(sum_of(term)[0], tuple)

    def test_numbers(self):
        self.told(num(5), (), 5)
        self.told(("add", num(5), num(-8)), (), -3)
        self.told(("mul", -4, ("add", num(5), ("mul", 2, num(3)))), (), -44)
        self.told(("mul", 10 ** 29, num(10 ** 29)), (), 10 ** 58)

    def test_each_atom(self):
        for atom in (A, ("name", "left"), OWN, ("name", "given"), ("name", 0), ("name", 12), ("read", R, A),
                     ("read", ("with", S, A, B), ONE), ("size", R), ("size", ("room", A)), ("div", A, 3), ("mod", A, 3),
                     ("notion", "f", (R, A)), ("notion", "f", ())):
            self.told(atom, ((atom, 1),), 0)
            self.told(("add", ("mul", -3, atom), ONE), ((atom, -3),), 1)

    def test_in_the_order_of_meeting(self):
        self.told(total(B, A, C), ((B, 1), (A, 1), (C, 1)), 0)
        self.told(("add", C, ("add", A, ("add", num(4), B))), ((C, 1), (A, 1), (B, 1)), 4)
        self.told(total(B, ("mul", 2, ("add", A, B)), A), ((B, 3), (A, 3)), 0)
        self.told(total(A, ("mul", 2, ("mul", -5, ("add", A, ("add", B, num(7)))))), ((A, -9), (B, -10)), -70)

    def test_an_atom_met_twice_in_two_spellings_stands_as_first_met(self):
        one, other = ("read", R, ("add", A, ONE)), ("read", R, ("add", ONE, A))
        self.told(total(one, B, other), ((one, 2), (B, 1)), 0)
        self.told(total(other, B, one), ((other, 2), (B, 1)), 0)
        within = ("size", ("with", S, ("mul", 2, A), one)), ("size", ("with", S, ("add", A, A), other))
        self.told(total(within[0], ("mul", -3, within[1])), ((within[0], -2),), 0)
        # One spelling stands within another atom only: the first that is met as an atom counts.
        self.told(total(("mod", one, 2), other, one), ((("mod", one, 2), 1), (other, 2)), 0)

    def test_weight_nought_when_met_first_keeps_the_place(self):
        self.told(total(("mul", 0, A), B, A), ((A, 1), (B, 1)), 0)
        self.told(total(A, B, ("mul", -1, A), C, A), ((A, 1), (B, 1), (C, 1)), 0)
        self.told(("add", ("mul", 0, ("add", B, ("mul", 5, A))), ("add", A, B)), ((B, 1), (A, 1)), 0)
        one, other = ("mod", ("add", A, B), 3), ("mod", ("add", B, A), 3)
        self.told(total(("mul", 0, one), B, other), ((one, 1), (B, 1)), 0)

    def test_weights_that_come_to_nought_are_left_out(self):
        self.told(("mul", 0, A), (), 0)
        self.told(total(A, B, ("mul", -1, A)), ((B, 1),), 0)
        self.told(("mul", 0, total(A, num(9))), (), 0)
        self.told(total(("mul", 2, A), ("mul", -1, ("add", A, A)), ONE), (), 1)
        self.told(("mul", 3, ("mul", 0, ("mul", 5, A))), (), 0)

    def test_what_are_unlike_atoms(self):
        for one, other in ((A, B), (("name", 0), ("name", 1)), (("div", A, 2), ("div", A, 3)),
                           (("div", A, 2), ("mod", A, 2)), (("size", R), ("size", S)), (("read", R, A), ("read", S, A)),
                           (("notion", "f", (A,)), ("notion", "g", (A,))), (("notion", "f", (A, B)), ("notion", "f", (B, A))),
                           (("notion", "f", (A,)), ("notion", "f", (A, A))), (("name", "r"), ("size", R)),
                           (("size", ("with", R, A, B)), ("size", ("with", R, B, A)))):
            self.told(("add", one, other), ((one, 1), (other, 1)), 0)

    def test_nothing_is_changed(self):
        term = total(("mul", 2, ("read", R, A)), B, ("read", R, ("add", A, NOUGHT)))
        before = copy.deepcopy(term)
        self.assertEqual(sum_of(term), sum_of(term))
        self.assertEqual(term, before)

    def test_by_chance(self):
        chance = random.Random(7)
        for _ in range(1200):
            term = any_term(chance, 6, notions=(("f", ("number", "row")), ("g", ("number",))))
            self.assertEqual(sum_of(term), sum_by_hand(term), term)

    def test_it_is_the_terms_worth(self):
        chance = random.Random(8)
        table = {"a": 5, "b": -3, "r": (3, ((0, 4), (1, -2))), "s": (0, ((5, 1),))}
        for _ in range(300):
            term = any_term(chance, 5)
            pairs, number = sum_of(term)
            worths = [weight * worth_by_hand(atom, table, {}, []) for atom, weight in pairs]
            self.assertEqual(sum(worths) + number, worth_by_hand(term, table, {}, []))


class FormOf(unittest.TestCase):
    def told(self, thing, due):
        with self.subTest(thing):
            self.assertEqual(form_of(thing), due)

    def test_of_numbers(self):
        self.told(num(5), ("sum", (), 5))
        self.told(("add", num(5), ("mul", -2, num(4))), ("sum", (), -3))

    def test_of_atoms(self):
        a = ("sum", ((A, 1),), 0)
        self.told(A, a)
        self.told(("name", 3), ("sum", ((("name", 3), 1),), 0))
        self.told(("size", R), ("sum", ((("size", R), 1),), 0))
        self.told(("read", R, A), ("sum", ((("read", R, a), 1),), 0))
        self.told(("div", A, 5), ("sum", ((("div", a, 5), 1),), 0))
        self.told(("mod", num(7), 5), ("sum", ((("mod", ("sum", (), 7), 5), 1),), 0))
        self.told(("notion", "f", (R, ONE, A)), ("sum", ((("notion", "f", (R, ("sum", (), 1), a)), 1),), 0))
        self.told(("notion", "f", ()), ("sum", ((("notion", "f", ()), 1),), 0))

    def test_of_row_terms(self):
        a, one = ("sum", ((A, 1),), 0), ("sum", (), 1)
        self.told(R, R)
        self.told(("row", 4), ("row", 4))
        self.told(("room", A), ("room", a))
        self.told(("with", R, ONE, A), ("with", R, one, a))
        self.told(("with", ("room", ONE), A, ("size", S)),
                  ("with", ("room", one), a, ("sum", ((("size", S), 1),), 0)))

    def test_pairs_are_sorted_by_repr(self):
        self.told(total(B, A, C, ONE), ("sum", ((A, 1), (B, 1), (C, 1)), 1))
        self.told(total(("name", 2), ("name", 10), A),
                  ("sum", ((A, 1), (("name", 10), 1), (("name", 2), 1)), 0))
        # Shorter beginnings: none behind some, one behind several, several ahead of more.
        f = [("notion", "f", (A,) * many) for many in range(5)]
        forms = [form_of(term)[1][0][0] for term in f]
        self.told(total(*f), ("sum", tuple((form, 1) for form in sorted(forms, key=repr)), 0))
        self.assertEqual([len(form[2]) for form in sorted(forms, key=repr)], [2, 3, 4, 1, 0])

    def test_two_spellings_of_one_thing(self):
        for one, other in ((("add", A, B), ("add", B, A)), (("add", A, A), ("mul", 2, A)),
                           (("mul", 0, A), NOUGHT), (("mod", ("add", A, ONE), 3), ("mod", ("add", ONE, A), 3)),
                           (("with", R, ("add", A, NOUGHT), B), ("with", R, A, ("mul", 1, B))),
                           (("notion", "f", (("room", ("add", ONE, ONE)),)), ("notion", "f", (("room", num(2)),)))):
            with self.subTest(one):
                self.assertEqual(form_of(one), form_of(other))
        for one, other in ((A, B), (A, ("mul", 2, A)), (R, S), (("with", R, A, B), ("with", R, B, A)),
                           (("with", ("with", R, A, B), A, B), ("with", R, A, B)),
                           (("size", ("with", R, A, B)), ("size", R))):
            with self.subTest(one):
                self.assertNotEqual(form_of(one), form_of(other))

    def test_by_chance(self):
        chance = random.Random(9)
        for _ in range(1200):
            for make in (any_term, any_row):
                thing = make(chance, 6, (A, B, ("name", 0), ("name", 11)), notions=(("f", ("number",)), ("f", ("number",) * 2)))
                self.assertEqual(form_of(thing), form_by_hand(thing), thing)


class Great(unittest.TestCase):
    """In time that doubles with each step none of these would end."""

    def test_forty_deep(self):
        for step in (lambda t: ("read", R, ("add", t, ONE)), lambda t: ("mod", ("add", ONE, t), 7),
                     lambda t: ("notion", "f", (("with", R, t, ONE), ("mul", 2, t if t == A else NOUGHT))),
                     lambda t: ("size", ("room", ("add", B, t)))):
            term = built(40, step)
            self.assertEqual(form_of(term), form_by_hand(term))
            self.assertEqual(sum_of(term), (((term, 1),), 0))

    def test_the_same_part_many_times_over(self):
        term = built(40, lambda t: ("add", t, t))
        self.assertEqual(sum_of(term), (((A, 2 ** 40),), 0))
        self.assertEqual(form_of(term), ("sum", ((A, 2 ** 40),), 0))
        term = built(40, lambda t: ("add", ("add", t, ONE), ("mul", -1, t)))
        self.assertEqual(sum_of(term), ((), 1))
        for step in (lambda t: ("add", ("mod", t, 7), ("div", t, 3)), lambda t: ("notion", "f", (t, t)),
                     lambda t: ("read", ("with", R, t, t), t), lambda t: ("add", ("read", R, t), ("mul", 3, ("read", S, t)))):
            term = built(40, step)
            pairs, number = sum_of(term)
            self.assertIn(len(pairs), (1, 2))
            self.assertEqual(number, 0)
            word, form_pairs, number = form_of(term)
            self.assertEqual((word, len(form_pairs), number), ("sum", len(pairs), 0))
            # As far down as one can look, it is as the plainest way has it.
            small = built(5, step)
            self.assertEqual(form_of(small), form_by_hand(small))

    def test_of_a_great_thing_as_of_a_small_one(self):
        chance = random.Random(10)
        many = [any_term(chance, 4) for _ in range(40)]
        whole = total(*many)
        thrice = total(whole, ("mul", 2, whole), *[whole] * 20)
        self.assertEqual(sum_of(thrice), sum_by_hand(("mul", 23, whole)))
        self.assertEqual(form_of(("room", thrice)), form_by_hand(("room", ("mul", 23, whole))))


if __name__ == "__main__":
    unittest.main()
