import copy
import itertools
import random
import unittest

from leapwork.texts import called, fault, statements, ways
from sample_texts import A, CLAIM, FULL, GIVE, LESS_ONE, N, NOTION, NOUGHT, R, YES, claim, notion, work

SET, HOLD = ("set", "x", A), ("hold", YES)


def either(one=(), other=()):
    return ("if", YES, tuple(one), tuple(other))


def loop(*inner):
    return ("while", YES, (), tuple(inner))


def call(name, *places):
    return ("notion", name, places)


class Statements(unittest.TestCase):
    def told(self, text, due):
        before = copy.deepcopy(text)
        self.assertEqual(statements(text), due)
        self.assertIs(type(statements(text)), list)
        self.assertIsNot(statements(text), statements(text))
        self.assertEqual(text, before)

    def test_as_they_stand(self):
        self.told(work(), [GIVE])
        self.told(work(statements=(SET, HOLD, GIVE)), [SET, HOLD, GIVE])
        self.told(claim(), [])
        self.told(claim(statements=(HOLD, HOLD)), [HOLD, HOLD])

    def test_an_if_or_while_is_ahead_of_those_within(self):
        one, other, last = ("set", "x", ("num", 1)), ("set", "x", ("num", 2)), ("set", "x", ("num", 3))
        split = either([one, other], [last])
        self.told(work(statements=(split, GIVE)), [split, one, other, last, GIVE])
        round_ = loop(one, other)
        self.told(work(statements=(SET, round_, last, GIVE)), [SET, round_, one, other, last, GIVE])
        inner = either([], [one])
        outer = loop(other, inner, last)
        whole = either([outer, HOLD], [either(), GIVE])
        self.told(work(statements=(whole, GIVE)),
                  [whole, outer, other, inner, one, last, HOLD, either(), GIVE, GIVE])

    def test_of_the_rich_samples(self):
        self.assertEqual([statement[0] for statement in statements(FULL)],
                         ["set", "put", "row", "row", "do", "do", "hold", "use", "while", "set", "if", "give", "set", "if",
                          "give", "set", "give"])
        self.assertEqual([statement[0] for statement in statements(CLAIM)], ["if", "use", "hold", "hold", "if", "hold"])

    def test_of_a_notion_none(self):
        self.told(NOTION, [])


class Called(unittest.TestCase):
    def told(self, text, *due):
        self.assertIsNone(fault(text))
        before = copy.deepcopy(text)
        self.assertEqual(called(text), list(due))
        self.assertIs(type(called(text)), list)
        self.assertEqual(text, before)

    def test_nothing(self):
        self.told(work())
        self.told(claim())
        self.told(notion())

    def test_each_once_as_they_first_stand(self):
        self.told(work(statements=(("do", "x", "b", ()), ("use", "b", ()), ("do", "x", "a", ()), ("do", "x", "b", ()),
                                   ("use", "a", ()), GIVE)), ("do", "b"), ("use", "b"), ("do", "a"), ("use", "a"))
        self.told(work(needs=(("le", call("n"), call("g", call("n"), call("h"))),), gives=(("eq", A, call("h", call("k"))),),
                       spends=("add", call("s"), call("k"))), *[("notion", name) for name in "nghks"])

    def test_needs_gives_spends_statements(self):
        text = work(needs=(less_than(call("c")),), gives=(less_than(call("b")),), spends=call("a"),
                    statements=(("hold", less_than(call("e"))), ("use", "u", (call("d"), call("z"))), GIVE))
        self.told(text, ("notion", "c"), ("notion", "b"), ("notion", "a"), ("notion", "e"), ("use", "u"), ("notion", "d"),
                  ("notion", "z"))
        text = claim(needs=(less_than(call("c")),), gives=(less_than(call("b")),), spends=call("a"),
                     statements=(("if", less_than(call("g")), (("use", "v", (call("h"),)),), (("hold", less_than(call("i"))),)),
                                 ("use", "u", (call("i"),))))
        self.told(text, ("notion", "c"), ("notion", "b"), ("notion", "a"), ("notion", "g"), ("use", "v"), ("notion", "h"),
                  ("notion", "i"), ("use", "u"))

    def test_within_ifs_and_whiles(self):
        inner = ("while", YES, (less_than(call("k")), ("all", NOUGHT, call("low"), less_than(call("inner")))),
                 (("do", "x", "w", ()), either([("use", "c", ())], [("do", "x", "v", ())]), ("do", "x", "u", ())))
        self.told(work(statements=(inner, ("do", "x", "last", ()), GIVE)), ("notion", "k"), ("notion", "low"),
                  ("notion", "inner"), ("do", "w"), ("use", "c"), ("do", "v"), ("do", "u"), ("do", "last"))

    def test_of_notions(self):
        self.told(notion(zero=call("g", call("h")), more=("add", call("f", R, LESS_ONE), call("i", N))),
                  ("notion", "g"), ("notion", "h"), ("notion", "f"), ("notion", "i"))
        self.assertEqual(called(NOTION), [("notion", "f"), ("notion", "g")])
        self.assertEqual(called(FULL), [("notion", "f"), ("notion", "g"), ("do", "other"), ("do", "w"), ("use", "fact")])
        self.assertEqual(called(CLAIM), [("notion", "f"), ("use", "c")])


def less_than(term):
    return ("le", term, A)


def ways_by_hand(block):
    """The ways through a block, one by one: (those that go through, those that end)."""
    through, ended = [()], []
    for statement in block:
        if statement[0] == "give":
            through, ended = [], ended + through
        elif statement[0] == "if":
            more = [[(word, *way) for word, inner in zip(("then", "else"), statement[2:]) for way in ways_by_hand(inner)[at]]
                    for at in (0, 1)]
            ended = ended + [way + end for way, end in itertools.product(through, more[1])]
            through = [way + behind for way, behind in itertools.product(through, more[0])]
        elif statement[0] == "while":
            inner = ways_by_hand(statement[3])
            ended = ended + [way + ("in", *round_) for way in through for round_ in inner[0] + inner[1]]
            through = [way + ("past",) for way in through]
    return through, ended


def any_block(chance, deep):
    block = []
    for _ in range(chance.randrange(4)):
        word = chance.choice(("set", "hold", "if", "while", "if")) if deep else "set"
        block.append({"set": SET, "hold": HOLD}.get(word) or (
            either(any_block(chance, deep - 1), any_block(chance, deep - 1)) if word == "if" else loop(*any_block(chance, deep - 1))))
    return block + [GIVE] if chance.random() < 0.3 else block


class Ways(unittest.TestCase):
    def of(self, due, *block):
        self.assertEqual(ways(("work", "w", (), (), "number", (), (), NOUGHT, block)), due)
        self.assertEqual(ways(("claim", "c", (), (), (), NOUGHT, block)), due)

    def test_of_each_kind_of_statement(self):
        self.of(1)
        self.of(1, GIVE)
        for statement in (SET, HOLD, ("put", "r", A, A), ("row", "r", R), ("do", "x", "w", ()), ("use", "c", ())):
            self.of(1, statement)
            self.of(1, statement, statement, GIVE)
        self.of(2, either())
        self.of(2, either([GIVE], []))
        self.of(2, either([GIVE], [GIVE]))
        self.of(2, loop())
        self.of(2, loop(GIVE))
        self.of(2, loop(SET), GIVE)

    def test_one_behind_the_other(self):
        self.of(4, either(), either())
        self.of(2 ** 10, *[either()] * 10)
        self.of(3, either([GIVE], []), either())
        self.of(3, loop(), loop(), GIVE)
        self.of(11, *[loop()] * 10, GIVE)
        self.of(4, either(), loop())
        self.of(3, loop(), either())
        self.of(6, either([either()], []), either())

    def test_within_one_another(self):
        self.of(3, either([either()], []))
        self.of(4, either([either()], [either()]))
        self.of(3, loop(either()), GIVE)
        self.of(4, loop(either([GIVE], [either()])), GIVE)
        self.of(3, loop(loop()), GIVE)
        self.of(6, loop(either([GIVE], [either()]), loop()), GIVE)

    def test_by_chance_against_the_ways_one_by_one(self):
        chance = random.Random(18)
        for _ in range(600):
            block = any_block(chance, 3)
            through, ended = ways_by_hand(block)
            if len(through) + len(ended) < 3000:
                self.of(len(through) + len(ended), *block)

    def test_of_texts(self):
        self.assertEqual(ways(FULL), len(ways_by_hand(FULL[-1])[1]))
        self.assertEqual(ways(FULL), 4)
        self.assertEqual(ways(CLAIM), 4)

    def test_of_a_notion(self):
        self.assertEqual(ways(NOTION), 0)


if __name__ == "__main__":
    unittest.main()
