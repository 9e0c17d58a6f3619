import copy
import itertools
import math
import random
import unittest

from by_hand import any_plain, form_by_hand, looked_by_hand, sum_by_hand
from leapwork.floor import closed, floor_of, leaves_of
from leapwork.judge import is_bundle, judged
from samples import NOUGHT, ONE, OWN

X, Y, Z, V = ("name", 0), ("name", 1), ("name", 2), ("name", 3)
ROW = ("row", 9)
RIGHT = ("right",)
NEVER, LESS, SAME = ("le", ONE, NOUGHT), ("le", X, Y), ("eq", X, Y)


def num(n):
    return ("num", n)


def plus(term, n):
    return ("add", term, num(n))


def at_most(one, n, other):
    """one - other is at most n."""
    return ("le", one, plus(other, n))


class Leaves(unittest.TestCase):
    def told(self, bundle, *leaves):
        before = copy.deepcopy(bundle)
        self.assertEqual(leaves_of(bundle), list(leaves))
        self.assertEqual(bundle, before)

    def test_a_bundle_without_ands_and_ors_is_its_leaf(self):
        bundle = [LESS, ("not", LESS), ("eq", X, Y), ("all", X, Y, ("and", LESS, LESS))]
        self.told(bundle, bundle)
        self.assertIsNot(leaves_of(bundle)[0], bundle)

    def test_and_likes_are_opened_in_their_order(self):
        self.told([("and", LESS, SAME), NEVER], [("and", LESS, SAME), NEVER, LESS, SAME])
        one, other, third = ("and", LESS, ("not", ("not", SAME))), ("not", ("or", LESS, NEVER)), ("not", ("not", NEVER))
        self.told([LESS, one, other, third],
                  [LESS, one, other, third, LESS, ("not", ("not", SAME)), ("not", LESS), ("not", NEVER), NEVER, SAME])

    def test_what_is_opened_once_is_not_opened_again(self):
        both = ("and", LESS, LESS)
        self.told([both, both], [both, both, LESS, LESS, LESS, LESS])

    def test_ors_are_split(self):
        either = ("or", LESS, SAME)
        self.told([either, NEVER], [either, NEVER, LESS], [either, NEVER, SAME])
        neither = ("not", ("and", LESS, NEVER))
        self.told([neither], [neither, ("not", LESS)], [neither, ("not", NEVER)])
        unlike = ("not", SAME)
        self.told([unlike], [unlike, ("le", plus(X, 1), Y)], [unlike, ("le", plus(Y, 1), X)])

    def test_each_child_opens_its_own_and_likes_ahead_of_the_next_split(self):
        either = ("or", ("and", LESS, SAME), ("not", ("or", NEVER, NEVER)))
        last = ("or", LESS, NEVER)
        one = [either, last, ("and", LESS, SAME), LESS, SAME]
        other = [either, last, ("not", ("or", NEVER, NEVER)), ("not", NEVER), ("not", NEVER)]
        self.told([either, last], one + [LESS], one + [NEVER], other + [LESS], other + [NEVER])

    def test_and_likes_are_opened_ahead_of_splits(self):
        either, both = ("or", LESS, SAME), ("and", LESS, ("or", NEVER, LESS))
        start = [either, both, LESS, ("or", NEVER, LESS)]
        self.told([either, both], start + [LESS, NEVER], start + [LESS, LESS], start + [SAME, NEVER], start + [SAME, LESS])

    def test_at_most_four_cases_above_one_another(self):
        sayings = [("or", ("le", X, num(n)), ("le", Y, num(n))) for n in range(5)]
        leaves = leaves_of(sayings)
        self.assertEqual(len(leaves), 16)
        for leaf, chosen in zip(leaves, itertools.product((1, 2), repeat=4)):
            self.assertEqual(leaf, sayings + [saying[at] for saying, at in zip(sayings, chosen)])
        # Each way down counts by itself.
        deep = ("or", LESS, ("or", SAME, ("or", NEVER, ("or", LESS, ("or", SAME, NEVER)))))
        self.assertEqual([len(leaf) for leaf in leaves_of([deep])], [2, 3, 4, 5, 5])

    def test_what_is_not_opened(self):
        bundle = [("all", X, Y, ("and", ("le", OWN, X), LESS)), ("le", ("read", ("room", X), X), ("size", ROW)),
                  ("le", ("notion", "f", (X,)), ("mod", Y, 3))]
        self.told(bundle, bundle)

    def test_of_many_and_likes(self):
        saying = LESS
        for _ in range(600):
            saying = ("and", saying, LESS)
        self.assertEqual(len(leaves_of([saying])[0]), 1 + 2 * 600)
        many = [("and", LESS, ("and", LESS, ("and", LESS, LESS)))] * 60
        self.assertEqual(len(leaves_of(many)[0]), 60 * 7)


class Closed(unittest.TestCase):
    def closes(self, *sayings):
        rows = closed(list(sayings))
        self.assertIsNotNone(rows, sayings)
        self.assertEqual(judged(list(sayings), {}, ("lines", rows)), RIGHT)

    def stays_open(self, *sayings):
        self.assertIsNone(closed(list(sayings)), sayings)

    def test_lines_without_atoms(self):
        self.closes(NEVER)
        self.closes(LESS, ("eq", num(4), num(5)))
        self.closes(LESS, ("eq", num(5), num(4)))
        self.closes(("not", ("le", X, plus(X, 1))))
        self.stays_open(("le", NOUGHT, NOUGHT))
        self.stays_open(("eq", X, X))
        self.stays_open()
        self.stays_open(("and", NEVER, NEVER), ("not", ("eq", X, X)))

    def test_rings_of_ways(self):
        self.closes(at_most(X, 3, Y), at_most(Y, -2, Z), at_most(Z, -2, X))
        self.stays_open(at_most(X, 3, Y), at_most(Y, -1, Z), at_most(Z, -2, X))
        self.closes(at_most(Z, -2, X), at_most(V, 0, Z), at_most(Y, -2, Z), at_most(X, 3, Y), at_most(X, 9, V))
        self.stays_open(at_most(X, -3, Y), at_most(Y, -2, Z), at_most(Z, -2, V))
        self.closes(at_most(X, -1, Y), at_most(Y, 0, X))

    def test_rings_with_nought(self):
        self.closes(("le", X, num(3)), ("le", num(4), X))
        self.stays_open(("le", X, num(4)), ("le", num(4), X))
        self.closes(("le", X, num(3)), at_most(Y, -2, X), ("le", num(2), Y))
        self.stays_open(("le", X, num(4)), at_most(Y, -2, X), ("le", num(2), Y))
        self.stays_open(("le", num(4), X), ("le", num(4), Y), at_most(X, -2, Y))

    def test_ways_are_the_lines_of_weights_one_alone(self):
        self.stays_open(("le", ("add", X, Y), num(3)), ("le", num(4), ("add", X, Y)))
        self.stays_open(("le", ("add", ("mul", 2, X), Y), num(3)), ("le", num(4), ("add", ("mul", 2, X), Y)))
        self.stays_open(("le", ("add", X, ("add", Y, Z)), num(-1)), ("le", NOUGHT, X), ("le", NOUGHT, Y), ("le", NOUGHT, Z))
        self.closes(("le", ("add", ("read", ROW, X), num(2)), ("size", ROW)), ("le", ("size", ROW), ("read", ROW, X)))

    def test_what_all_weights_share_is_divided_out_rounded_down(self):
        self.closes(("le", ("mul", 2, X), ONE), ("le", ONE, X))
        self.stays_open(("le", ("mul", 2, X), num(2)), ("le", ONE, X))
        self.closes(("le", ("add", ("mul", 6, X), ("mul", -6, Y)), num(-1)), at_most(Y, 0, X))
        self.closes(("le", ("mul", 3, X), num(-1)), ("le", num(-2), ("mul", 3, X)))
        self.stays_open(("le", ("mul", 3, X), num(-1)), ("le", num(-3), ("mul", 3, X)))
        self.closes(("eq", ("mul", 2, X), num(7)))
        self.closes(("eq", ("add", ("mul", 4, X), ("mul", -4, Y)), num(-6)))
        self.stays_open(("eq", ("add", ("mul", 4, X), ("mul", 2, Y)), num(7)))
        self.stays_open(("eq", ("mul", 2, X), num(-8)))

    def test_equalities_are_used(self):
        self.closes(("eq", X, ("mul", 2, Y)), ("le", ("mul", 2, Y), num(3)), ("le", num(3), X))
        self.stays_open(("eq", X, ("mul", 2, Y)), ("le", ("mul", 2, Y), num(4)), ("le", num(3), X))
        self.stays_open(("eq", X, ("add", Y, Z)), ("le", ("add", Y, Z), num(3)), ("le", num(4), X))
        self.closes(("eq", ("add", X, ("mul", 3, Y)), num(5)), ("eq", ("add", X, ("mul", 3, Y)), num(6)))
        self.closes(("le", num(11), V), ("eq", Z, ("add", Y, Y)), ("eq", Y, ("mul", 2, X)), ("eq", V, ("add", Z, Y)),
                    ("le", ("mul", 2, X), num(3)))
        self.stays_open(("le", num(6), V), ("eq", Z, ("add", Y, Y)), ("eq", Y, ("mul", 2, X)), ("eq", V, ("add", Z, Y)),
                        ("le", ("mul", 2, X), num(3)))
        # An equality whose weights are no 1 is not used, but stands as two lines.
        self.stays_open(("eq", ("mul", 2, X), ("mul", 3, Y)), ("le", ("mul", 4, X), num(2)), ("le", num(3), ("mul", 6, Y)))
        self.closes(("eq", ("mul", 2, X), ("mul", 2, Y)), at_most(X, -1, Y))

    def test_an_equality_may_get_a_weight_of_one_by_another(self):
        first, second = ("eq", ("add", ("mul", 2, X), ("mul", 3, Y)), num(7)), ("eq", ("add", X, ("add", Y, Z)), NOUGHT)
        whole = ("add", ("mul", 3, X), ("add", ("mul", 4, Y), Z))
        self.closes(first, second, ("le", whole, num(6)))
        self.closes(first, second, ("le", num(8), whole))
        self.stays_open(first, second, ("le", whole, num(7)))
        self.stays_open(second, ("le", whole, num(6)))

    def test_the_order_in_which_they_are_used(self):
        # The first equality's first atom is taken out: what is left has weights 2 and 3, or 1 and 1.
        one = ("eq", ("add", X, Y), ("mul", 2, Z))
        more = [("le", ("add", ("mul", 2, X), Y), num(3)), ("le", num(4), ("add", ("mul", 2, X), Y))]
        for bundle in itertools.permutations([one, *more]):
            self.assertEqual(closed(list(bundle)) is None, not closes_by_hand(list(bundle)))

    def test_numbers_below_nought_and_great_ones(self):
        big = 10 ** 29
        self.closes(("le", X, num(-big)), ("le", num(1 - big), X))
        self.stays_open(("le", X, num(-big)), ("le", num(-big), X))
        self.closes(("eq", X, ("mul", big, Y)), ("le", ("add", ("mul", 3, X), ("mul", -3 * big, Y)), num(-1)))

    def test_spelled_otherwise(self):
        self.closes(("le", ("read", ROW, ("add", X, Y)), num(3)), ("le", num(4), ("read", ROW, ("add", Y, X))))

    def test_by_chance_against_the_plainest_way(self):
        chance = random.Random(15)
        told = {True: 0, False: 0}
        for number in range(4000):
            letters = (X, Y, Z, V)[:chance.randrange(1, 5)]
            if number % 2:
                sayings = [any_plain(chance, chance.choice((2, 3, 3)), letters, (ROW,)) for _ in range(chance.randrange(1, 7))]
            else:
                sayings = [sparse(chance, letters) for _ in range(chance.randrange(2, 8))]
            rows = closed(sayings)
            self.assertEqual(rows is not None, closes_by_hand(sayings), sayings)
            told[rows is not None] += 1
            if rows is not None:
                self.assertEqual(judged(sayings, {}, ("lines", rows)), RIGHT)
        self.assertGreater(min(told.values()), 800)


def sparse(chance, letters):
    """A line by chance, with small weights."""
    term = num(chance.randrange(-4, 5))
    for letter in chance.sample(letters, min(len(letters), chance.choice((1, 1, 2, 2, 3)))):
        term = ("add", ("mul", chance.choice((1, 1, -1, -1, 2, -2, 3)), letter), term)
    saying = (chance.choice(("le", "le", "eq")), term, NOUGHT)
    return ("not", saying) if saying[0] == "le" and chance.random() < 0.2 else saying


def line_by_hand(saying):
    """[kind, weights by forms, number] of a saying, or None."""
    if saying[0] == "not" and saying[1][0] == "le":
        saying = ("le", ("add", saying[1][2], ONE), saying[1][1])
    if saying[0] not in ("le", "eq"):
        return None
    pairs, number = sum_by_hand(("add", saying[1], ("mul", -1, saying[2])))
    return [saying[0], {form_by_hand(atom): weight for atom, weight in pairs}, -number]


def closes_by_hand(sayings):
    """Whether the floor closes a leaf: used lines are gone on with, and all ways from each to each are reckoned."""
    lines = [line for line in map(line_by_hand, sayings) if line]
    order = list(dict.fromkeys(atom for line in lines for atom in line[1]))
    used = []
    while True:
        free = [(line, atom) for line in lines if line[0] == "eq" and line not in used for atom in order
                if abs(line[1].get(atom, 0)) == 1]
        if not free:
            break
        line, atom = free[0]
        used.append(line)
        for other in lines:
            if other is not line:
                often = other[1].get(atom, 0) // line[1][atom]
                for each in order:
                    other[1][each] = other[1].get(each, 0) - often * line[1].get(each, 0)
                other[2] -= often * line[2]
    near = {}
    ends = [None, *order]
    for kind, weights, number in [line for line in lines if not any(line is each for each in used)]:
        for sign in (1, -1)[:1 + (kind == "eq")]:
            left = {atom: sign * weight for atom, weight in weights.items() if weight}
            shared = math.gcd(*left.values()) if left else 1
            bound = sign * number // shared
            if not left and bound < 0:
                return True
            ones = sorted((weight // shared, order.index(atom)) for atom, weight in left.items())
            weights_left = [weight for weight, _ in ones]
            if weights_left in ([1], [-1], [-1, 1]):
                start = order[ones[0][1]] if weights_left[0] == -1 else None
                end = order[ones[-1][1]] if weights_left[-1] == 1 else None
                near[start, end] = min(bound, near.get((start, end), bound))
    for middle, start, end in itertools.product(ends, repeat=3):
        if (start, middle) in near and (middle, end) in near:
            way = near[start, middle] + near[middle, end]
            near[start, end] = min(way, near.get((start, end), way))
    return any(near.get((end, end), 0) < 0 for end in ends)


class Floor(unittest.TestCase):
    def found(self, *bundle):
        before = copy.deepcopy(list(bundle))
        paper = floor_of(list(bundle))
        self.assertIsNotNone(paper, bundle)
        self.assertEqual(judged(list(bundle), {}, paper), RIGHT)
        self.assertEqual(list(bundle), before)
        return paper

    def test_papers_of_just_these_nodes(self):
        self.assertEqual(self.found(NEVER)[0], "lines")
        paper = self.found(("or", NEVER, ("and", LESS, NEVER)), ("and", LESS, LESS))
        self.assertEqual((paper[:2], paper[2][:2]), (("parts", 1), ("cases", 0)))
        self.assertEqual([child[0] for child in paper[2][2:]], ["lines", "parts"])
        # All is gone through as told, also where a line is closed from the beginning.
        paper = self.found(NEVER, ("and", LESS, LESS), ("or", LESS, LESS))
        self.assertEqual((paper[:2], paper[2][:2]), (("parts", 1), ("cases", 2)))

    def test_where_a_leaf_is_not_closed(self):
        for bundle in ([LESS], [("or", NEVER, LESS)], [("or", LESS, NEVER)], [("not", SAME)], [("and", LESS, SAME)],
                       [("all", NOUGHT, ONE, NEVER)], [("le", ("size", ROW), num(-1))]):
            self.assertIsNone(floor_of(bundle))

    def test_not_equal_and_equal(self):
        self.found(("not", ("eq", X, Y)), ("eq", X, Y))
        self.found(("not", ("eq", X, Y)), ("le", X, Y), ("le", Y, X))
        self.found(("not", ("or", LESS, ("le", Y, X))))

    def test_only_four_cases_above_one_another(self):
        either = ("or", LESS, LESS)
        for many in range(4):
            self.found(*[either] * many, ("or", NEVER, NEVER))
        self.assertIsNone(floor_of([either] * 4 + [("or", NEVER, NEVER)]))
        self.found(("or", NEVER, NEVER), *[either] * 4)
        deep = LESS
        for _ in range(4):
            deep = ("or", NEVER, deep)
        self.found(deep, ("le", Y, plus(X, -1)))
        self.assertIsNone(floor_of([("or", NEVER, deep), ("le", Y, plus(X, -1))]))

    def test_the_bounds_of_papers(self):
        def ands(many):
            return [("and", LESS, LESS)] * many + [NEVER]
        self.found(*ands(39))
        self.assertIsNone(floor_of(ands(40)))
        self.assertIsNone(floor_of(ands(50)))
        either = [("or", LESS, LESS)] * 4 + [NEVER]
        self.found(*either)
        # 31 nodes, and ten more on each of sixteen ways: 191; with eleven: 207.
        for many, right in ((10, True), (11, False)):
            inner = LESS
            for _ in range(many):
                inner = ("and", inner, LESS)
            bundle = [("or", LESS, LESS)] * 3 + [("or", inner, inner), NEVER]
            self.assertTrue(is_bundle(bundle))
            paper = floor_of(bundle)
            self.assertIs(paper is not None, right)
            if right:
                self.assertEqual(judged(bundle, {}, paper), RIGHT)

    def test_of_great_bundles(self):
        bundle = [at_most(("name", n), -1, ("name", n + 1)) for n in range(23)] + [at_most(("name", 23), 22, X)]
        self.found(*bundle)
        self.found(*bundle[::-1])
        self.assertIsNone(floor_of(bundle[:-1] + [at_most(("name", 23), 23, X)]))
        same = [("eq", ("name", n), ("mul", 3, ("name", n + 1))) for n in range(23)]
        self.found(*same, ("le", num(1), ("name", 23)), ("le", X, num(3 ** 23 - 1)))
        self.assertIsNone(floor_of([*same, ("le", num(1), ("name", 23)), ("le", X, num(3 ** 23))]))

    def test_by_chance(self):
        chance = random.Random(16)
        found = 0
        for _ in range(1500):
            bundle = [any_plain(chance, chance.choice((2, 3, 4, 5)), (X, Y), (ROW,)) for _ in range(chance.randrange(1, 7))]
            paper = floor_of(bundle)
            leaves = leaves_of(bundle)
            self.assertEqual(paper is not None, all(closes_by_hand(leaf) for leaf in leaves), bundle)
            if paper is not None:
                found += 1
                self.assertEqual(judged(bundle, {}, paper), RIGHT)
                for x, y, row in itertools.product(range(-2, 3), range(-2, 3), ((0, ()), (2, ((0, 1), (1, -2))))):
                    table = {0: x, 1: y, 9: row}
                    self.assertFalse(all(looked_by_hand(saying, table, {}, [])[0] for saying in bundle))
        self.assertGreater(found, 300)


if __name__ == "__main__":
    unittest.main()
