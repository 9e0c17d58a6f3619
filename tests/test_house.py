"""Houses: the deeds, what they refuse and what they tell."""

import copy
import unittest

from books import NO, TRI, YES, claim, text_of, work
from leapwork.errors import Full, NoGoal, NoInputs, NoMark, NoName, NoPaper, NoText, NoTicks, NoWorths, Standing
from leapwork.floor import floor_of
from leapwork.goals import goals_of
from leapwork.house import House
from leapwork.leaps import leap
from leapwork.machine import run_code
from leapwork.papers import NODES
from leapwork.texts import fault
from leapwork.walk import walk
from samples import ANYTHING

W, V, C, T = text_of(work()), text_of(work("v", gives=YES)), text_of(claim()), text_of(TRI)
# A bundle that is never so, with a paper; the same with one that isn't right.
NEVER = [("le", ("num", 1), ("num", 0))]
PAPER = ("lines", ((((0, 1),), 1),))
NO_NAMES = [thing for thing in ANYTHING if not isinstance(thing, float)] + ["w ", "W", ("w",), ["w"]]


def bundle(n):
    return [("le", ("num", n), ("name", 0)), ("le", ("name", 0), ("num", 0))]


def of(*texts, floor=True):
    house = House(floor=floor)
    for text in texts:
        house.put(text)
    return house


def seen(house):
    """All that a house answers, but its marks."""
    names = house.names()
    return (names, [house.text(name) for name in names], house.papers(), [house.paper(one) for one in house.papers()],
            [(house.goals(name), house.reaches(name), house.settled(name), house.told(name)) for name in names])


class Houses(unittest.TestCase):
    def refused(self, error, field, house, deed, *parts):
        """A deed is refused so, and changes nothing."""
        before = (seen(house), house.marks())
        with self.assertRaises(error) as caught:
            deed(*parts)
        if field is not None:
            name, worth = field
            self.assertEqual(getattr(caught.exception, name), worth)
        self.assertEqual((seen(house), house.marks()), before)

    def both(self):
        """A house with a floor and one without."""
        return House(), House(floor=False)


class Texts(Houses):
    def test_made_empty(self):
        for house in (House(), House(floor=True), House(floor=False)):
            self.assertEqual((house.names(), house.papers(), house.marks()), ([], [], []))

    def test_put_text_and_names(self):
        for house in self.both():
            for text in (W, C, T, V):
                house.put(text)
            self.assertEqual(house.names(), ["c", "tri", "v", "w"])
            for text in (W, C, T, V):
                self.assertEqual(house.text(text[1]), text)

    def test_no_texts(self):
        house = of(W)
        for thing in [*ANYTHING, W[:-1], list(W), ("work", "Bad", *W[2:]), ("work", "w", (("a", "number"), ("a", "row")), *W[3:]),
                      (*W[:-1], ()), (*W[:-1], (("give", ("row", "a")),)), (*W[:-1], (("give", ("num", 10 ** 30)),))]:
            word = fault(thing)
            self.assertIsNotNone(word)
            self.refused(NoText, ("word", word), house, house.put, thing)
            self.refused(NoText, ("word", word), house, house.swap, thing)

    def test_standing(self):
        house = of(W, T)
        self.refused(Standing, ("name", "w"), house, house.put, W)
        self.refused(Standing, ("name", "tri"), house, house.put, text_of(claim("tri")))

    def test_eighteen_texts(self):
        names = [chr(ord("a") + n) * 2 for n in range(19)]
        house = of(*[text_of(work(name)) for name in names[:17]])
        house.put(text_of(work(names[17])))
        self.assertEqual(len(house.names()), 18)
        self.refused(Full, ("most", 18), house, house.put, text_of(work(names[18])))
        self.refused(Full, ("most", 18), house, house.put, T)
        # What is told first goes first.
        self.refused(Standing, ("name", "aa"), house, house.put, text_of(work("aa")))
        self.refused(NoText, ("word", "form"), house, house.put, None)
        self.refused(NoName, ("name", "tri"), house, house.swap, T)
        house.swap(text_of(claim("aa")))
        house.take_out("bb")
        house.put(T)
        self.assertEqual(len(house.names()), 18)

    def test_swap(self):
        house = of(W, V)
        other = text_of(claim("w"))
        house.swap(other)
        self.assertEqual((house.names(), house.text("w"), house.text("v")), (["v", "w"], other, V))
        self.refused(NoName, ("name", "c"), house, house.swap, C)

    def test_take_out(self):
        house = of(W, V)
        house.take_out("w")
        self.assertEqual(house.names(), ["v"])
        for name in [*NO_NAMES, "w", "c"]:
            self.refused(NoName, ("name", name), house, house.take_out, name)

    def test_names_that_do_not_stand(self):
        house = of(W, T)
        for name in [*NO_NAMES, "c"]:
            for asked in (house.text, house.goals, house.reaches, house.settled, house.told, house.run):
                self.refused(NoName, ("name", name), house, asked, name)
            self.refused(NoName, ("name", name), house, house.leap, name, 0, ())

    def test_what_is_told_is_the_askers_own(self):
        house = of(W, V, T)
        house.hand(NEVER, PAPER)
        house.mark()
        before = (seen(house), house.marks())
        for told in (house.names(), house.papers(), house.marks(), house.goals("v"), house.reaches("w"), house.settled("w"), house.papers()[0],
                     house.goals("v")[0][2], house.put(text_of(work("x", gives=NO)))):
            told.clear()
        house.take_out("x")
        self.assertEqual((seen(house), house.marks()), before)
        open_one = of(text_of(work(gives="(le (num 5) (name a))")), floor=False)
        before = seen(open_one)
        for part in open_one.told("w")[1:]:
            if isinstance(part, list):
                part.clear()
        self.assertEqual(seen(open_one), before)

    def test_what_is_handed_in_stays(self):
        house = House()
        text, one, paper = copy.deepcopy(V), copy.deepcopy(NEVER), ("lines", [1, [2]])
        house.put(text)
        house.hand(one, paper)
        self.assertEqual((text, one, paper), (V, NEVER, ("lines", [1, [2]])))


class News(Houses):
    """What put, swap, take_out and back tell: bundles that are new."""

    def test_put(self):
        house = House()
        self.assertEqual(house.put(V), [goal[2] for goal in goals_of({"v": V}, "v")])
        # What some goal had already isn't new: both begin alike.
        text = text_of(work("u", gives="(le (num 2) (num 3))"))
        self.assertEqual(house.put(text), [[("le", ("num", 0), ("num", 9)), ("not", ("le", ("num", 2), ("num", 3)))]])
        self.assertEqual(house.put(text_of(work("x"))), [])
        self.assertEqual(house.put(T), [])

    def test_each_once_in_the_order_of_names_and_goals(self):
        house = House()
        block = f"(hold {NO}) (if {YES} () ()) (hold {YES}) (give (num 0))"
        text = text_of(work("z", block=block))
        goals = [goal[2] for goal in goals_of({"z": text}, "z")]
        self.assertEqual(house.put(text), goals)
        twice = text_of(work("y", spends="(num 1)", block=f"(if {YES} () ()) (give (num 0))", gives="(le (num 4) (num 5))"))
        house.put(twice)
        # A callee's needs change its callers' bundles: theirs are told, and its own.
        callee = text_of(work("m", needs="(le (num 0) (name a))", spends="(num 1)"))
        for name in ("z", "b"):
            (house.swap if name == "z" else house.put)(text_of(work(name, block="(do x m ((num 7))) (hold (le (num 0) (name a))) (give (num 0))")))
        told = house.put(callee)
        due = []
        for name in ("b", "m", "z"):
            for goal in house.goals(name)[0 if name == "m" else 1:]:
                if goal[2] not in due:
                    due.append(goal[2])
        self.assertEqual(told, due)
        self.assertEqual(len(due), 4)

    def test_swap_take_out_and_back(self):
        house = of(V, text_of(work("u", block="(do x v ((num 0))) (give (num 0))")))
        stuck = text_of(work("v", letters="", gives=YES))
        # The way of u ends at a do that doesn't fit: nothing is new.
        house.mark()
        self.assertEqual(house.swap(stuck), [])
        self.assertEqual(house.swap(V), [house.goals("u")[1][2]])
        house.swap(stuck)
        self.assertEqual(house.back(0), [house.goals("u")[1][2]])
        self.assertEqual(house.back(0), [])
        gone = house.goals("v")[1][2]
        self.assertEqual(house.take_out("v"), [])
        self.assertEqual(house.back(0), [house.goals("u")[1][2], gone])
        changed = text_of(work("v", spends="(num 2)"))
        self.assertEqual(house.swap(changed), [house.goals("u")[1][2], [("not", ("le", ("num", 0), ("num", 2)))]])

    def test_taking_out_may_make_new_ones(self):
        # Without the claim the way ends at its use, and behind the other branch nothing changes.
        house = of(C, text_of(work(block=f"(if {YES} ((use c ((num 0)))) ()) (hold {YES}) (give (num 0))")))
        self.assertEqual(house.take_out("c"), [])
        self.assertEqual(len(house.goals("w")), 2)
        self.assertEqual(house.put(C), [house.goals("w")[1][2]])

    def test_too_great_ones_are_not_told(self):
        block = "(set x (add (name x) (name x))) " * 33 + "(hold (le (name x) (num 0))) (give (num 0))"
        house = House()
        self.assertEqual(house.put(text_of(work(block=block))), [[("not", ("le", ("num", 0), ("num", 9)))]])
        self.assertEqual([goal[2] is None for goal in house.goals("w")], [False, True])
        self.assertEqual(house.settled("w"), [True, False])

    def test_papers_do_not_matter(self):
        house = House()
        due = [goal[2] for goal in goals_of({"v": V}, "v")]
        for one in due:
            house.hand(one, ("lines", ()))
        self.assertEqual(house.put(V), due)


class Papers(Houses):
    def test_hand(self):
        for house in self.both():
            self.assertEqual(house.hand(NEVER, PAPER), ("right",))
            self.assertEqual(house.paper(NEVER), PAPER)
            # Kept right or not.
            wrong = ("cases", 0, PAPER, PAPER)
            self.assertEqual(house.hand(bundle(1), wrong), ("wrong", ()))
            self.assertEqual(house.paper(bundle(1)), wrong)
            self.assertEqual(house.hand(bundle(2), ("put", ("le", ("num", 0), ("name", 0)), ("lines", ((((0, 1), (1, 1)), 1),)), None)), ("wrong", (1,)))
            self.assertEqual(house.papers(), sorted([bundle(1), NEVER, bundle(2)], key=repr))

    def test_in_the_notions_that_stand(self):
        never = [("le", ("num", 1), ("notion", "tri", (("num", 0),)))]
        paper = ("unfold", never[0][2], ("lines", ((((0, 1), (2, 1)), 1),)), ("lines", ((((1, 1),), 1),)))
        house = House()
        self.assertEqual(house.hand(never, paper), ("wrong", ()))
        house.drop(never)
        house.put(T)
        self.assertEqual(house.hand(never, paper), ("right",))

    def test_no_paper(self):
        house = of(V)
        for thing in [*ANYTHING, tuple(NEVER), [], NEVER * 61, [("le", ("name", "a"), ("num", 0))], [("le", ("num", 10 ** 30), ("num", 0))]]:
            self.refused(NoPaper, None, house, house.hand, thing, PAPER)
            self.refused(NoPaper, None, house, house.drop, thing)
            self.refused(NoPaper, None, house, house.paper, thing)
        for thing in [*[thing for thing in ANYTHING if thing not in (("all",), ("notion",))], list(PAPER), "lines", (PAPER,), ("Lines", 1), (None, 1),
                      (["lines"], 1), ("le", 1, 2), ()]:
            self.refused(NoPaper, None, house, house.hand, NEVER, thing)
        self.refused(NoPaper, None, house, house.drop, NEVER)
        self.refused(NoPaper, None, house, house.paper, NEVER)

    def test_any_tuple_with_a_nodes_word_first(self):
        for word in NODES:
            for rest in ((), (None,), ([1, [2]], ("le",)), (1,) * 9):
                house = House()
                self.assertEqual(house.hand(NEVER, (word, *rest)), ("wrong", ()))
                self.assertEqual(house.paper(NEVER), (word, *rest))

    def test_a_paper_is_neither_kept_nor_told_itself(self):
        inner = [1, [2]]
        house = House()
        house.hand(NEVER, ("lines", inner, (inner,)))
        inner[1].append(3)
        inner.append(4)
        due = ("lines", [1, [2]], ([1, [2]],))
        self.assertEqual(house.paper(NEVER), due)
        house.paper(NEVER)[1].clear()
        house.paper(NEVER)[2][0][1].clear()
        self.assertEqual(house.paper(NEVER), due)
        one = copy.deepcopy(NEVER)
        house = House()
        house.hand(one, PAPER)
        one.append(1)
        house.papers()[0].append(1)
        self.assertEqual(house.papers(), [NEVER])

    def test_standing(self):
        house = of(V)
        house.hand(NEVER, PAPER)
        self.refused(Standing, ("name", None), house, house.hand, NEVER, ("lines", ()))
        self.refused(Standing, ("name", None), house, house.hand, copy.deepcopy(NEVER), PAPER)
        house.drop(NEVER)
        self.assertEqual(house.hand(NEVER, ("lines", ())), ("wrong", ()))
        self.assertIsNone(house.drop(NEVER))
        self.refused(NoPaper, None, house, house.drop, NEVER)

    def test_forty_papers(self):
        house = House()
        for n in range(40):
            house.hand(bundle(n), PAPER)
        self.refused(Full, ("most", 40), house, house.hand, bundle(40), PAPER)
        self.refused(Standing, ("name", None), house, house.hand, bundle(7), PAPER)
        self.refused(NoPaper, None, house, house.hand, bundle(40), None)
        house.drop(bundle(7))
        house.hand(bundle(40), PAPER)
        self.assertEqual(house.papers(), sorted([bundle(n) for n in range(41) if n != 7], key=repr))

    def test_by_repr(self):
        house = House()
        for n in (10, 9, -1, 100):
            house.hand(bundle(n), PAPER)
        self.assertEqual([one[0][1][1] for one in house.papers()], [-1, 10, 100, 9])


class Settled(Houses):
    GOOD, OPEN = text_of(work(gives="(le (num 0) (num 1))")), text_of(work(letters="(r row)", own="", gives="(le (num 0) (size (row r)))"))

    def test_by_the_floor(self):
        self.assertEqual(of(self.GOOD).settled("w"), [True, True])
        self.assertEqual(of(self.GOOD, floor=False).settled("w"), [False, False])
        self.assertEqual(of(self.OPEN).settled("w"), [True, False])
        self.assertEqual(of(T).settled("tri"), [])

    def test_by_papers(self):
        for floor in (True, False):
            house = of(self.OPEN, floor=floor)
            one, other = [goal[2] for goal in house.goals("w")]
            house.hand(other, ("size", ("row", 0), floor_of(other + [("le", ("num", 0), ("size", ("row", 0)))])))
            self.assertEqual(house.settled("w"), [floor, True])
            house.drop(other)
            self.assertEqual(house.settled("w"), [floor, False])
            house.hand(other, ("lines", ()))
            self.assertEqual(house.settled("w"), [floor, False])
        # Where the floor has one, a paper that isn't right is no matter.
        house = of(self.GOOD)
        house.hand(house.goals("w")[0][2], ("lines", ()))
        self.assertEqual(house.settled("w"), [True, True])

    def test_a_paper_handed_ahead_of_the_text(self):
        other = goals_of({"w": self.OPEN}, "w")[1][2]
        house = House()
        house.hand(other, ("size", ("row", 0), floor_of(other + [("le", ("num", 0), ("size", ("row", 0)))])))
        house.put(self.OPEN)
        self.assertEqual(house.settled("w"), [True, True])


class Marks(Houses):
    def test_mark_and_back(self):
        for house in self.both():
            self.assertEqual(house.mark(), 0)
            empty = seen(house)
            house.put(V)
            house.hand(NEVER, PAPER)
            self.assertEqual(house.mark(), 1)
            before = seen(house)
            house.drop(NEVER)
            house.hand(bundle(1), PAPER)
            house.put(W)
            house.swap(text_of(claim("v")))
            self.assertEqual(house.marks(), [0, 1])
            house.back(1)
            self.assertEqual((seen(house), house.marks()), (before, [0, 1]))
            house.take_out("v")
            house.back(1)
            self.assertEqual((seen(house), house.marks()), (before, [0, 1]))
            house.back(0)
            self.assertEqual((seen(house), house.marks()), (empty, [0]))
            self.refused(NoMark, ("number", 1), house, house.back, 1)

    def test_later_ones_go(self):
        house = House()
        for n in range(4):
            self.assertEqual(house.mark(), n)
            house.put(text_of(work(chr(ord("a") + n))))
        house.back(2)
        self.assertEqual((house.marks(), house.names()), ([0, 1, 2], ["a", "b"]))
        self.assertEqual(house.mark(), 3)
        house.back(3)
        self.assertEqual(house.names(), ["a", "b"])

    def test_six_marks(self):
        house = of(W)
        for n in range(6):
            self.assertEqual(house.mark(), n)
        self.refused(Full, ("most", 6), house, house.mark)
        self.assertEqual(house.marks(), [0, 1, 2, 3, 4, 5])
        house.back(4)
        self.assertEqual(house.mark(), 5)

    def test_no_marks(self):
        house = of(W)
        house.mark()
        for number in [*[thing for thing in ANYTHING if thing != 0 or isinstance(thing, bool)], 1, -1, "0", (0,)]:
            self.refused(NoMark, ("number", number), house, house.back, number)
        house = House()
        self.refused(NoMark, ("number", 0), house, house.back, 0)


class Runs(Houses):
    def test_run(self):
        book = {"w": text_of(work(needs="(le (num 0) (name a))", block="(do x v ((name a))) (give (name x))", spends="(num 20)")),
                "v": text_of(work("v", block="(hold (le (name a) (num 3))) (give (add (name a) (num 1)))")), "c": C, "tri": T}
        house = of(*book.values())
        for a in (-1, 2, 4):
            self.assertEqual(house.run("w", (a,)), walk(book, "w", (a,)))
            self.assertEqual(house.run("w", (a,), by="walk"), walk(book, "w", (a,)))
            self.assertEqual(house.run("w", (a,), by="looked"), run_code(book, "w", (a,)))
            self.assertEqual(house.run("w", (a,), by="bare"), run_code(book, "w", (a,), looked=False))
        self.assertEqual([house.run("w", (4,), by=by)[0][0] for by in ("walk", "looked", "bare")], ["break", "break", "gave"])
        self.assertEqual(len(house.run("w", (4,))[0]), 5)
        self.assertEqual(len(house.run("w", (4,), by="looked")[0]), 3)
        self.assertEqual(house.run("w", (2,), ticks=0), (("tired",), 0, []))
        self.assertEqual(house.run("w", (2,), ticks=0, by="bare"), (("tired",), 0, []))

    def test_refusals(self):
        house = of(W, C, T)
        for by in ("walk", "looked", "bare"):
            for name in ("tri", "none", None):
                with self.assertRaises(NoName) as caught:
                    house.run(name, None, ticks=None, by=by)
                self.assertEqual(caught.exception.name, name)
            with self.assertRaises(NoInputs):
                house.run("w", None, ticks=None, by=by)
            with self.assertRaises(NoInputs):
                house.run("w", by=by)
            with self.assertRaises(NoTicks):
                house.run("w", (0,), ticks=2001, by=by)
        with self.assertRaises(NoName):
            house.run("c", (0,), by="bare")
        self.assertEqual(house.run("c", (0,), by="looked")[0], ("gave", None))

    def test_leap(self):
        text = text_of(work(block="(hold (le (name a) (num 3))) (give (num 0))"))
        house = of(text, T)
        for a in (3, 4):
            self.assertEqual(house.leap("w", 1, (a,)), leap({"w": text}, "w", 1, (a,)))
        for error, parts in ((NoName, ("tri", 9, None)), (NoName, (None, 0, ())), (NoGoal, ("w", 2, None)), (NoWorths, ("w", 1, (1, 2)))):
            with self.assertRaises(error):
                house.leap(*parts)

    def test_goals(self):
        house = of(W, V, C, T)
        for name in ("w", "v", "c"):
            self.assertEqual(house.goals(name), goals_of({"w": W, "v": V, "c": C, "tri": T}, name))
        self.assertEqual((house.goals("tri"), house.settled("tri")), ([], []))


if __name__ == "__main__":
    unittest.main()
