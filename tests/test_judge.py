import copy
import itertools
import random
import unittest

from by_hand import any_plain, any_row, any_term, looked_by_hand
from leapwork.floor import closed
from leapwork.judge import is_bundle, judged, more_at
from leapwork.notions import firm
from leapwork.terms import things_in
from samples import ANYTHING, NOUGHT, ONE, OWN, nested

X, Y, Z = ("name", 0), ("name", 1), ("name", 2)
ROW, OTHER = ("row", 3), ("row", 4)
N = ("name", "n")
LESS_ONE = ("add", N, ("num", -1))
COUNT = ("notion", "count", 0, (("n", "number"),), NOUGHT, ("add", ("notion", "count", (LESS_ONE,)), ONE))
TOTAL = ("notion", "total", 1, (("r", "row"), ("n", "number")), NOUGHT,
         ("add", ("read", ("row", "r"), LESS_ONE), ("notion", "total", (("row", "r"), LESS_ONE))))
WEAK = ("notion", "weak", 0, (("n", "number"),), NOUGHT, ("notion", "count", (N,)))
NOTIONS = {"count": COUNT, "total": TOTAL, "weak": WEAK}
RIGHT = ("right",)
NEVER, LESS = ("le", ONE, NOUGHT), ("le", X, Y)


def num(n):
    return ("num", n)


def lines(*rows):
    """A lines node: each row is its pairs, or its pairs and a divisor behind."""
    return ("lines", tuple((row[:-1], row[-1]) if isinstance(row[-1], int) else (row, 1) for row in rows))


def both(*places):
    """A lines node of one row, each of these lines once."""
    return lines(tuple((place, 1) for place in places))


def call(name, *places):
    return ("notion", name, places)


# Bundles with right papers, a node each.
SAMPLES = {
    "lines": ([("le", ("mul", 2, X), ONE), ("le", ONE, X)], lines(((0, 1), 2), ((2, 1), (1, 1)))),
    "parts": ([("and", ("le", X, Y), ("not", ("or", ("le", X, Y), ("le", Y, X))))],
              ("parts", 0, ("parts", 2, both(1, 3)))),
    "parts of nots": ([("not", ("not", ("not", ("le", X, X))))], ("parts", 0, both(1))),
    "cases": ([("or", ("le", X, NOUGHT), ("le", X, num(-3))), ("not", ("and", ("le", X, num(9)), ("le", NOUGHT, ONE))),
               ("le", X, num(5))],
              ("cases", 0, ("cases", 1, both(2, 4), both(4)), ("cases", 1, both(2, 4), both(4)))),
    "cases of eq": ([("not", ("eq", X, Y)), ("le", X, Y), ("le", Y, X)], ("cases", 0, both(2, 3), both(1, 3))),
    "take": ([("all", NOUGHT, X, ("le", OWN, num(4))), ("eq", X, num(7))],
             ("take", 0, num(5), both(2), lines(((2, 1), (1, -1))), both(2))),
    "put": ([("or", LESS, ("le", X, num(-1))), ("or", ("not", LESS), ("le", X, num(-1))), ("le", NOUGHT, X)],
            ("put", LESS, ("cases", 1, both(3, 4), both(2, 4)), ("cases", 0, both(3, 4), both(2, 4)))),
    "alike": ([("eq", X, Y), ("not", ("eq", ("read", ROW, X), ("read", ROW, Y)))],
              ("alike", ("read", ROW, X), ("read", ROW, Y),
               (("cases", 2, lines(((3, 1), (0, -1))), lines(((3, 1), (0, 1)))),
                ("cases", 1, lines(((3, 1), (2, -1))), lines(((3, 1), (2, 1))))))),
    "alike of no firm notion": ([("eq", X, Y), ("le", call("weak", X), num(3)), ("le", num(4), call("weak", Y))],
                                ("alike", call("weak", X), call("weak", Y),
                                 (("cases", 3, lines(((4, 1), (0, -1))), lines(((4, 1), (0, 1)))),
                                  lines(((3, -1), (1, 1), (2, 1)))))),
    "write": ([("eq", X, Y), ("le", ("read", ("with", ROW, X, num(9)), Y), num(8))],
              ("write", ("read", ("with", ROW, X, num(9)), Y), lines(((3, -1), (1, 1))),
               ("cases", 2, lines(((4, 1), (0, -1))), lines(((4, 1), (0, 1)))))),
    "bare": ([("le", ONE, ("read", ("room", Y), X))], ("bare", ("read", ("room", Y), X), lines(((0, 1), (1, 1))))),
    "size": ([("le", ("size", ("with", ROW, X, Y)), num(-1))], ("size", ("with", ROW, X, Y), both(0, 1))),
    "size of room": ([("le", num(2), X), ("not", ("eq", X, ("size", ("room", X))))],
                     ("size", ("room", X), ("cases", 3, ("parts", 4, ("cases", 1, lines(((7, 1), (6, 1))),
                                                                       lines(((7, 1), (6, -1))))),
                                            ("parts", 4, both(0, 5))))),
    "floor": ([("le", ("mul", 7, Y), X), ("le", X, ("add", ("mul", 7, Y), num(6))),
               ("le", ("div", X, 7), ("add", Y, num(-1)))],
              ("floor", ("div", X, 7), lines(((3, 1), (0, 1), (5, 1), (2, 7))))),
    "unfold": ([("eq", X, ONE), ("not", ("eq", call("count", X), ONE))],
               ("unfold", call("count", X), lines(((2, 1), (0, -1))),
                ("unfold", call("count", ("add", X, num(-1))),
                 ("cases", 1, lines(((3, -1), (5, -1), (6, 1))), lines(((3, 1), (5, 1), (6, 1)))), both(4, 0)))),
}

CHILDREN = {"parts": 1, "cases": 2, "take": 3, "put": 2, "write": 2, "bare": 1, "size": 1, "floor": 1, "unfold": 2}


def nodes_of(paper, path=()):
    """The nodes of a right paper with their paths."""
    found = [(path, paper)]
    many = CHILDREN.get(paper[0], 0)
    for number, part in enumerate(paper[3] if paper[0] == "alike" else paper[len(paper) - many:]):
        found += nodes_of(part, path + (number,))
    return found



def with_node(paper, path, node):
    """A paper with another node at a path."""
    if not path:
        return node
    if paper[0] == "alike":
        papers = list(paper[3])
        papers[path[0]] = with_node(papers[path[0]], path[1:], node)
        return (*paper[:3], tuple(papers))
    at = len(paper) - CHILDREN[paper[0]] + path[0]
    return (*paper[:at], with_node(paper[at], path[1:], node), *paper[at + 1:])


def chain(many, end):
    """So many parts nodes above an end."""
    for _ in range(many):
        end = ("parts", 0, end)
    return end


def tree(many):
    """A paper of so many nodes, right for a list with NEVER at 1 and an and at 0."""
    if many == 1:
        return both(1)
    if many == 2:
        return ("parts", 0, both(1))
    return ("put", LESS, tree(many // 2), tree(many - 1 - many // 2))


class Judged(unittest.TestCase):
    GREAT = [("and", LESS, LESS), NEVER]

    def told(self, bundle, paper, due, notions=NOTIONS):
        before = copy.deepcopy((bundle, notions))
        told = judged(bundle, notions, paper)
        self.assertEqual(told, due)
        self.assertIs(type(told), tuple)
        self.assertEqual((bundle, notions), before)

    def test_papers_for_each_node(self):
        for name, (bundle, paper) in SAMPLES.items():
            with self.subTest(name):
                self.assertTrue(is_bundle(bundle))
                self.told(bundle, paper, RIGHT)

    def test_the_node_that_is_wrong_is_told_by_its_path(self):
        for name, (bundle, paper) in SAMPLES.items():
            for path, _ in nodes_of(paper):
                for bad in (None, ("lines", ()), both(0, 0, 99), ("parts", 99, both(1)), ("no", 1), [], "lines", 5):
                    with self.subTest((name, path, bad)):
                        self.told(bundle, with_node(paper, path, bad), ("wrong", path))

    def test_the_first_that_is_wrong_is_told_ahead_of_its_children(self):
        bundle = [("or", NEVER, NEVER), ("or", NEVER, NEVER)]
        good, bad = both(2), both(0)
        for papers, due in (((good, good, good, good), RIGHT), ((bad, good, good, good), ("wrong", (0, 0))),
                            ((good, bad, bad, bad), ("wrong", (0, 1))), ((good, good, bad, bad), ("wrong", (1, 0))),
                            ((good, good, good, bad), ("wrong", (1, 1)))):
            one, other, third, last = papers
            self.told(bundle, ("cases", 0, ("cases", 1, one, other), ("cases", 1, third, last)), due)
        self.told(bundle, ("cases", 0, good, ("cases", 2, bad, bad)), ("wrong", (1,)))
        self.told(bundle, ("cases", 7, bad, bad), ("wrong", ()))
        self.told(bundle, ("cases", 0, ("cases", 7, bad, bad), bad), ("wrong", (0,)))
        self.told(bundle, ("cases", 0, ("cases", 1, good, ("put", None, bad, bad)), bad), ("wrong", (0, 1)))

    def test_children_of_alike_are_counted_by_their_places(self):
        bundle, paper = SAMPLES["alike"]
        self.told(bundle, with_node(paper, (1, 1), both(0)), ("wrong", (1, 1)))
        self.told(bundle, with_node(with_node(paper, (1,), 3), (0, 0), None), ("wrong", (0, 0)))
        take, paper = SAMPLES["take"]
        self.told(take, with_node(paper, (2,), both(0)), ("wrong", (2,)))

    def test_what_stands_more_stands_for_this_child_alone(self):
        bundle = [("or", LESS, NEVER), ("le", X, X)]
        self.told(bundle, ("cases", 0, both(2), both(2)), ("wrong", (0,)))
        self.told(bundle, ("cases", 0, ("put", NEVER, both(3), both(3)), both(2)), ("wrong", (0, 1)))

    def test_notions_that_stand_firm_and_such_as_do_not(self):
        bundle, paper = SAMPLES["unfold"]
        self.told(bundle, paper, ("wrong", ()), {})
        self.told(bundle, paper, ("wrong", ()), {"count": COUNT[:5] + (call("none", N),)})
        weak = [("eq", X, ONE), ("not", ("eq", call("weak", X), ONE))]
        self.told(weak, ("unfold", call("weak", X), both(2, 0), both(0)), ("wrong", ()))
        bundle, paper = SAMPLES["alike of no firm notion"]
        self.told(bundle, paper, RIGHT, {})

    def test_lines_that_are_not_right(self):
        bundle, paper = SAMPLES["lines"]
        for rows in ((), (((0, 1), 3), ((2, 1), (1, 1))), (((0, 1), 2),), (((0, 1), 2), ((3, 1), (1, 1))),
                     (((0, -1), 2), ((2, 1), (1, 1))), (((0, 1), 2), ((2, 1), (1, 2))), (((5, 1), 2), ((2, 1), (1, 1)))):
            self.told(bundle, lines(*rows), ("wrong", ()))

    def test_two_hundred_nodes(self):
        for many, due in ((1, RIGHT), (2, RIGHT), (3, RIGHT), (57, RIGHT), (199, RIGHT), (200, RIGHT),
                          (201, ("wrong", ())), (202, ("wrong", ())), (1500, ("wrong", ()))):
            self.told(self.GREAT, tree(many), due)
        # Of a paper that has too many nodes no other fault is told.
        self.told(self.GREAT, with_node(tree(200), (1,), both(0)), ("wrong", (1,)))
        leaf = [path for path, node in nodes_of(tree(203)) if node[0] == "lines"][5]
        self.told(self.GREAT, with_node(tree(200), leaf, None), ("wrong", leaf))
        self.told(self.GREAT, with_node(tree(203), leaf, None), ("wrong", ()))

    def test_others_count_one_and_are_not_gone_into(self):
        def other(many):
            reads = ("read", ("row", 8), X)
            return ("put", LESS, both(1), ("alike", reads, reads, ((tree(9), tree(9)),) * many))
        self.told(self.GREAT, other(197), ("wrong", (1,)))
        self.told(self.GREAT, other(198), ("wrong", ()))
        self.told(self.GREAT, ("put", LESS, both(1), (tree(300), tree(300))), ("wrong", (1,)))
        self.told(self.GREAT, ("put", LESS, both(1), [tree(300)]), ("wrong", (1,)))
        self.told(self.GREAT, ("put", LESS, both(1), ("parts", 0, tree(300), 1)), ("wrong", (1,)))
        self.told(self.GREAT, ("put", LESS, both(1), ("no", 0, tree(300))), ("wrong", (1,)))
        self.told(self.GREAT, ("put", LESS, both(1), ("parts", tree(300), both(1))), ("wrong", (1,)))

    def test_forty_within_one_another(self):
        self.told(self.GREAT, chain(39, both(1)), RIGHT)
        self.told(self.GREAT, chain(40, both(1)), ("wrong", ()))
        self.told(self.GREAT, chain(39, 7), ("wrong", (0,) * 39))
        self.told(self.GREAT, chain(40, 7), ("wrong", ()))
        self.told(self.GREAT, chain(38, ("parts", 7, chain(0, both(1)))), ("wrong", (0,) * 38))
        self.told(self.GREAT, chain(60, both(1)), ("wrong", ()))

    def test_eighty_tuples_within_one_another(self):
        term = X
        for _ in range(57):
            term = ("add", term, ONE)
        saying = ("le", X, term)
        leaf = ("put", saying, both(1), both(1))
        self.told(self.GREAT, chain(20, leaf), RIGHT)
        self.told(self.GREAT, chain(21, leaf), ("wrong", ()))
        self.told(self.GREAT, chain(5, nested(0, 75)), ("wrong", (0,) * 5))
        self.told(self.GREAT, chain(5, nested(0, 76)), ("wrong", ()))
        # Into a list one doesn't go for this.
        self.told(self.GREAT, chain(5, [nested(0, 90)]), ("wrong", (0,) * 5))
        self.told(self.GREAT, chain(5, (nested(0, 73), [nested(0, 90)])), ("wrong", (0,) * 5))
        self.told(self.GREAT, chain(5, ("lines", nested(0, 74))), ("wrong", (0,) * 5))
        self.told(self.GREAT, chain(5, ("lines", nested(0, 75))), ("wrong", ()))

    def test_thirty_figures(self):
        for n, due in ((10 ** 30 - 1, RIGHT), (1 - 10 ** 30, RIGHT), (10 ** 30, ("wrong", ())), (-10 ** 30, ("wrong", ()))):
            self.told(self.GREAT, ("parts", 0, ("put", ("le", X, num(n)), both(1), both(1))), due)
            wrong = ("wrong", (0,)) if due == RIGHT else due
            self.told(self.GREAT, ("parts", 0, ("parts", n, both(1))), wrong)
            for other in (n, (n,), [n], [[(n,)]], ["lines", n], ("line", n), (("lines", 3), n), ("no", [n])):
                self.told(self.GREAT, ("parts", 0, other), wrong)
            for other in (("lines", n), ("lines", 1, n), ("lines", [n]), [("lines", n)], (1, ("lines", (n,), n))):
                self.told(self.GREAT, ("parts", 0, other), ("wrong", (0,)))
        self.told(self.GREAT, lines(((1, 10 ** 50), 10 ** 49)), RIGHT)
        self.told(self.GREAT, ("parts", 0, lines(((1, 10 ** 5000), 10 ** 4000))), RIGHT)
        self.told(self.GREAT, lines(((1, -10 ** 50),)), ("wrong", ()))

    def test_things_of_any_kind_as_papers(self):
        for thing in ANYTHING:
            self.told(self.GREAT, thing, ("wrong", ()))
            great = thing == 10 ** 5000 or thing in (nested(1, 99), ("not", nested((), 98)))
            due = ("wrong", ()) if great else ("wrong", (0,))
            self.told(self.GREAT, ("parts", 0, thing), due)
            self.told(self.GREAT, ("put", LESS, thing, both(1)), due)
            self.told(self.GREAT, ("parts", thing, both(1)), RIGHT if type(thing) is int and thing == 0 else ("wrong", ()))
            self.told(self.GREAT, ("put", thing, both(1), both(1)), ("wrong", ()))
            self.told(self.GREAT, ("alike", thing, thing, thing), ("wrong", ()))
            self.told(self.GREAT, ("lines", thing), ("wrong", ()))
            self.told(self.GREAT, ("lines", (thing,)), ("wrong", ()))
        for thing in (["parts", 0, both(1)], ("Parts", 0, both(1)), ("parts", 0), ("parts", 0, both(1), 1), (both(1),)):
            self.told(self.GREAT, thing, ("wrong", ()))


def closing(chance, sayings, deep):
    """A paper by chance that may be right at a list of sayings, or None."""
    if deep == 0 or chance.random() < 0.15:
        rows = closed(sayings)
        return None if rows is None else ("lines", rows)
    terms = [part for saying in sayings if saying[0] != "all" for part in things_in(saying)]
    reads = [part for part in terms if part[0] == "read"]
    calls = [part for part in terms if part[0] == "notion"]
    rows = [part for part in terms if part[0] in ("row", "with", "room")]
    numbers = [part for part in terms if part[0] in ("name", "num", "add", "size")]
    any_of = [("parts", chance.randrange(len(sayings)), 0), ("cases", chance.randrange(len(sayings)), 0, 0),
              ("cases", chance.randrange(len(sayings)), 0, 0), ("parts", chance.randrange(len(sayings)), 0)]
    if numbers:
        any_of.append(("take", chance.randrange(len(sayings)), chance.choice(numbers), 0, 0, 0))
        any_of.append(("put", ("le", chance.choice(numbers), chance.choice(numbers)), 0, 0))
    for some in (reads, calls):
        if some:
            one, other = chance.choice(some), chance.choice(some)
            any_of += [("alike", one, other, (0,) * many) for many in (2, 3)]
    any_of += [("write", read, 0, 0) for read in reads[:2]] + [("bare", read, 0) for read in reads[:2]]
    any_of += [("unfold", call, 0, 0) for call in calls[:2]] + [("size", row, 0) for row in rows[:2]]
    any_of += [("floor", part, 0) for part in terms if part[0] in ("div", "mod")][:2]
    node = chance.choice(any_of)
    children = more_at(sayings, NOTIONS, node)
    if children is None:
        return closing(chance, sayings, deep - 1)
    papers = [closing(chance, sayings + child, deep - 1) for child in children]
    if None in papers:
        return None
    return (*node[:3], tuple(papers)) if node[0] == "alike" else (*node[:len(node) - len(papers)], *papers)


class Sound(unittest.TestCase):
    """A bundle of which a paper is let by is so at no table."""

    ROWS = ((0, ()), (1, ((0, 1),)), (2, ((1, -1), (5, 2))), (3, ((-1, 1),)))

    def tables(self):
        for x, y in itertools.product(range(-2, 4), repeat=2):
            for row in self.ROWS:
                yield {0: x, 1: y, 3: row}

    def test_by_chance(self):
        chance = random.Random(14)
        standing = firm(NOTIONS)
        words = {}
        so = 0
        for _ in range(6000):
            kinds = (("count", ("number",)), ("total", ("row", "number"))) if chance.random() < 0.4 else ()
            bundle = [any_plain(chance, chance.choice((2, 3, 3, 4)), (X, Y), (ROW,), kinds)
                      for _ in range(chance.randrange(1, 4))]
            if chance.random() < 0.3:
                bundle.append(("all", NOUGHT, ("num", 2), any_plain(chance, 3, (X, OWN), (ROW,), ())))
            self.assertTrue(is_bundle(bundle))
            paper = closing(chance, bundle, 3)
            if paper is None or paper[0] == "lines" and chance.random() < 0.9:
                continue
            self.assertEqual(judged(bundle, NOTIONS, paper), RIGHT)
            words[paper[0]] = words.get(paper[0], 0) + 1
            for table in self.tables():
                self.assertFalse(all(looked_by_hand(saying, table, NOTIONS, standing)[0] for saying in bundle),
                                 (bundle, paper, table))
                so += 1
        self.assertGreater(so, 10000)
        self.assertGreaterEqual(len(words), 8, words)


if __name__ == "__main__":
    unittest.main()
