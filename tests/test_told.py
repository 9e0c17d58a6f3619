"""What a house tells of its texts: let by, broken, open, firm; and what they reach."""

import unittest

from books import LOOSE, NO, NOT_KNOWN, TRI, YES, claim, text_of, work
from leapwork.box import broken
from leapwork.floor import floor_of
from leapwork.house import House
from proofs import good_book, settle

LET_BY, FIRM = ("let by",), ("firm",)
# Neither settled by the floor nor broken at one of the first inputs.
FAR = "(le (name a) (num 100))"


def house_of(*writings, floor=True):
    house = House(floor=floor)
    for writing in writings:
        house.put(text_of(writing))
    return house


class Told(unittest.TestCase):
    def told(self, house, **due):
        self.assertEqual({name: house.told(name) for name in due}, due)

    def broken(self, house, name, k, look):
        told = house.told(name)
        self.assertEqual((told[0], told[1], told[2][:3]), ("broken", k, ("break", name, look)))
        self.assertEqual(told[1:], broken({each: house.text(each) for each in house.names()}, name))


class LetBy(Told):
    def test_alone(self):
        self.told(house_of(work(), claim()), w=LET_BY, c=LET_BY)
        self.told(house_of(work(), claim(), floor=False), w=("open", [0], []), c=("open", [0], []))

    def test_by_papers_without_a_floor(self):
        house = house_of(work(gives="(le (num 0) (num 3))"), floor=False)
        for goal in house.goals("w"):
            house.hand(goal[2], floor_of(goal[2]))
        self.told(house, w=LET_BY)
        house.drop(house.goals("w")[1][2])
        self.told(house, w=("open", [1], []))

    def test_with_all_that_it_reaches(self):
        house = house_of(work(block="(use c ((name a))) (do x v ((name a))) (hold (le (notion tri ((num 0))) (num 99999))) (give (num 0))",
                              needs=FAR, spends="(num 20)"),
                         work("v"), claim(), TRI)
        for number, goal in enumerate(house.goals("w")):
            if not house.settled("w")[number]:
                tri = ("notion", "tri", (("num", 0),))
                more = (("le", ("num", 0), ("num", 0)), ("eq", tri, ("num", 0))), (("le", ("num", 1), ("num", 0)),)
                house.hand(goal[2], ("unfold", tri, floor_of(goal[2] + list(more[0])), floor_of(goal[2] + list(more[1]))))
        self.told(house, w=LET_BY, v=LET_BY, c=LET_BY, tri=FIRM)
        house.swap(text_of(work("v", block=f"(hold {FAR}) (give (num 0))")))
        self.told(house, w=("open", [], ["v"]), v=("open", [1], []), c=LET_BY)
        house.swap(text_of(work("v")))
        self.told(house, w=LET_BY)
        house.take_out("c")
        self.assertEqual((house.told("w")[0], house.told("w")[2]), ("open", ["c"]))

    def test_good_ones(self):
        book = good_book()
        house = House()
        for text in book.values():
            house.put(text)
        notions = {"tri": book["tri"]}
        for name in book:
            self.assertTrue(settle(house, name, notions))
        self.assertEqual({house.told(name) for name in book if name != "tri"}, {LET_BY})
        # Papers that unfold lean on the notion.
        house.swap(text_of(TRI.replace("(num 0) (add", "(num 1) (add")))
        self.assertEqual([name for name in book if house.told(name) == LET_BY], ["above", "total", "write", "fill", "rest"])
        house.take_out("tri")
        self.assertEqual([name for name in house.names() if house.told(name) == LET_BY], ["fill", "rest", "total", "write"])
        house.put(book["tri"])
        self.assertEqual({house.told(name) for name in book if name != "tri"}, {LET_BY})


class Rings(Told):
    V = work("v", block="(do x w ((name a))) (give (num 0))", spends="(mul 99 (name a))", needs="(le (num 1) (name a))")
    W = work("w", block="(if (le (name a) (num 0)) ((give (num 0))) ()) (do x v ((name a))) (give (num 0))", spends="(mul 99 (name a))",
             needs="(le (num 0) (name a))")

    def test_let_by(self):
        down = work("w", block="(if (le (name a) (num 1)) ((give (num 0))) ()) (do x v ((add (name a) (num -1)))) (give (num 0))",
                    spends="(mul 2 (name a))", needs="(le (num 0) (name a))")
        other = work("v", block="(do x w ((name a))) (give (num 0))", spends="(add (mul 2 (name a)) (num 1))", needs="(le (num 1) (name a))")
        self.told(house_of(down, other), v=LET_BY, w=LET_BY)
        itself = work("w", block="(if (le (name a) (num 0)) ((give (num 0))) ()) (do x w ((add (name a) (num -1)))) (give (num 0))",
                      spends="(name a)", needs="(le (num 0) (name a))")
        self.told(house_of(itself), w=LET_BY)
        self.told(house_of(claim(block="(if (le (name a) (num 0)) () ((use c ((add (name a) (num -1))))))", spends="(name a)",
                                 needs="(le (num 0) (name a))")), c=LET_BY)

    def test_one_open_makes_all_wait(self):
        down = "(if (le (name a) (num 1)) ((give (num 0))) ()) (do x {} ((add (name a) (num -1)))) (give (num 0))"
        parts = {"spends": "(name a)", "needs": "(le (num 0) (name a))"}
        open_one = f"(hold {FAR}) " + down.format("w")
        house = house_of(work("u", block=down.format("v"), **parts), work("v", block=open_one, **parts), work("w", block=down.format("u"), **parts))
        self.told(house, u=("open", [], ["v", "w"]), v=("open", [1], ["u", "w"]), w=("open", [], ["u", "v"]))
        self.assertEqual([house.reaches(name) for name in "uvw"], [["u", "v", "w"]] * 3)


class Broken(Told):
    def test_ahead_of_open(self):
        house = house_of(work(block="(hold (le (name a) (num 0))) (use none ()) (give (num 0))"))
        # The use that doesn't fit is passed over, but the break comes first.
        self.broken(house, "w", 1, (1, "hold", 0))

    def test_let_by_goes_first_and_what_breaks_is_not_waited_for_otherwise(self):
        house = house_of(work(block="(do x v ((num 0))) (give (num 0))", spends="(num 20)"), work("v", block=f"(hold {NO}) (give (num 0))"))
        self.broken(house, "v", 0, (1, "hold", 0))
        self.told(house, w=("open", [], ["v"]))

    def test_claims(self):
        self.broken(house_of(claim(gives="(le (name a) (num 1))")), "c", 3, (1, "gives", 0))

    def test_where_a_callee_breaks_it_is_open(self):
        house = house_of(work(block=f"(use c ((name a))) (hold {FAR}) (give (num 0))"), claim(block=f"(hold {NO})"))
        self.told(house, w=("open", [1], ["c"]))

    def test_changes(self):
        house = house_of(work(block="(do x v ((name a))) (hold (le (name x) (num 3))) (give (num 0))", spends="(num 20)"),
                         work("v", block="(give (num 4))"))
        self.broken(house, "w", 0, (2, "hold", 0))
        house.swap(text_of(work("v", block="(give (num 3))")))
        self.told(house, w=("open", [2], []))
        house.swap(text_of(work("v", gives="(le (name given) (num 3))", block="(give (num 3))")))
        self.told(house, w=LET_BY)
        house.take_out("v")
        self.told(house, w=("open", [], ["v"]))


class Open(Told):
    def test_goals(self):
        house = house_of(work(block=f"(hold {FAR}) (hold {YES}) (hold (le (num -100) (name a))) (give (num 0))"))
        self.told(house, w=("open", [1, 3], []))
        self.assertEqual(house.settled("w"), [True, False, True, False])

    def test_too_great_ones_are_not_settled(self):
        house = house_of(work(block="(set x (add (name x) (name x))) " * 33 + "(hold (le (num 0) (name x))) (give (num 0))"))
        self.told(house, w=("open", [1], []))

    def test_waits(self):
        house = house_of(work(block="(use e ()) (use c ((num 0))) (hold (le (notion loose ((num 0))) (num 99))) (give (num 0))"),
                         claim(block="(use d ((num 0)))", spends="(num 20)"), claim("d", block="(use none ())"), LOOSE)
        # tri isn't there, so loose doesn't stand firm.
        self.assertEqual(house.reaches("w"), ["c", "d", "e", "loose", "none", "tri", "w"])
        # Its way ends at the use of what is absent, so its one goal is settled.
        self.told(house, w=("open", [], ["c", "d", "e", "loose", "none", "tri"]), c=("open", [], ["d", "none"]), d=("open", [], ["none"]),
                  loose=("open", [], ["tri"]))

    def test_what_does_not_fit_itself(self):
        for call in ("(do x v ())", "(do x v ((row r)))", "(do s v ((num 0)))", "(do x c ((num 0)))", "(use c ())", "(use c ((row r)))", "(use v ((num 0)))",
                     "(hold (or (le (num 0) (num 1)) (le (notion tri ((row r))) (num 0))))", "(hold (or (le (num 0) (num 1)) (le (notion tri ()) (num 0))))",
                     "(hold (or (le (num 0) (num 1)) (le (notion v ((num 0))) (num 0))))", "(use tri ((num 0)))", "(do x tri ((num 0)))"):
            house = house_of(work(letters="(a number) (r row)", own="(x number) (s row)", block=f"{call} (give (num 0))", spends="(num 20)"),
                             work("v"), claim(), TRI)
            self.assertTrue(all(house.settled("w")))
            self.told(house, w=("open", [], ["w"]), v=LET_BY, c=LET_BY, tri=FIRM)

    def test_notions_in_each_part_of_a_text(self):
        bad = "(le (num 0) (notion tri ((row r))))"
        for parts in ({"needs": bad}, {"gives": f"(or {YES} {bad})"}, {"block": f"(while {NO} ((or {YES} {bad})) ()) (give (num 0))"},
                      {"block": f"(use c ((notion tri ((row r))))) (give (num 0))"}):
            house = house_of(work(letters="(r row)", **parts), claim(), TRI)
            self.told(house, w=("open", [], ["w"]))
        house = house_of(claim(letters="(r row)", block=f"(if {bad} () ())"), TRI)
        self.told(house, c=("open", [], ["c"]))

    def test_its_own_name_only_where_both_are_empty(self):
        house = house_of(work(block=f"(hold {FAR}) (do x v ()) (give (num 0))"), work("v"))
        self.told(house, w=("open", [1], []))
        house = house_of(work(block="(do x v ()) (do x none ()) (give (num 0))"), work("v"))
        self.told(house, w=("open", [], ["none"]))

    def test_by_itself_it_is_not_waited_for(self):
        down = "(if (le (name a) (num 0)) ((give (num 0))) ()) (do x w ((add (name a) (num -1)))) (give (num 0))"
        house = house_of(work(block=f"(hold {FAR}) {down}", needs="(le (num 0) (name a))", spends="(name a)"))
        self.told(house, w=("open", [1], []))
        self.assertEqual(house.reaches("w"), ["w"])


class Notions(Told):
    def test_firm(self):
        high = "(notion high 3 ((n number)) (notion tri ((name n))) (num 0))"
        self.told(house_of(TRI, high), tri=FIRM, high=FIRM)
        self.told(house_of(TRI, high, floor=False), tri=FIRM, high=FIRM)

    def test_waits(self):
        high = "(notion high 3 ((n number)) (notion mid ((name n))) (notion low ((name n))))"
        mid = "(notion mid 2 ((n number)) (notion none ((name n))) (num 0))"
        low = "(notion low 0 ((n number)) (num 0) (num 1))"
        house = house_of(high, mid, low)
        self.told(house, high=("open", [], ["mid", "none"]), mid=("open", [], ["none"]), low=FIRM)
        house.put(text_of("(notion none 1 ((n number)) (num 0) (num 0))"))
        self.told(house, high=FIRM, mid=FIRM)

    def test_what_does_not_stand_firm_itself(self):
        # On floors that are not higher, with other places.
        for text in ("(notion f 0 ((n number)) (notion low ((name n))) (num 0))", "(notion f 3 ((r row) (n number)) (notion low ((row r))) (num 0))",
                     "(notion f 3 ((n number)) (notion low ()) (num 0))"):
            house = house_of(text, "(notion low 0 ((n number)) (num 0) (num 1))")
            self.told(house, f=("open", [], ["f"]), low=FIRM)
        ring = house_of("(notion f 1 ((n number)) (notion g ((name n))) (num 0))", "(notion g 1 ((n number)) (notion f ((name n))) (num 0))")
        self.told(ring, f=("open", [], ["g"]), g=("open", [], ["f"]))

    def test_a_notion_that_names_a_work(self):
        house = house_of("(notion f 1 ((n number)) (notion w ((name n))) (num 0))", work())
        self.told(house, f=("open", [], ["f"]), w=LET_BY)

    def test_what_changes_as_a_notion_is_swapped_and_comes_back(self):
        house = house_of(TRI, work(block="(hold (le (notion tri ((num -3))) (num 0))) (give (num 0))"))
        goal = house.goals("w")[1][2]
        tri = goal[1][1][1]
        house.hand(goal, ("unfold", tri, floor_of(goal + [("le", ("num", -3), ("num", 0)), ("eq", tri, ("num", 0))]),
                          floor_of(goal + [("le", ("num", 1), ("num", -3))])))
        self.told(house, w=LET_BY, tri=FIRM)
        house.mark()
        house.swap(text_of(TRI.replace("(num 0) (add", "(num 1) (add")))
        self.broken(house, "w", 0, (1, "hold", 0))
        house.swap(text_of(LOOSE.replace("loose", "tri", 1).replace("(notion tri ((name n)))", "(notion none ((name n)))")))
        self.told(house, w=("open", [1], ["none", "tri"]), tri=("open", [], ["none"]))
        house.swap(text_of(TRI))
        self.told(house, w=LET_BY, tri=FIRM)
        house.take_out("tri")
        self.told(house, w=("open", [1], ["tri"]))
        house.back(0)
        self.told(house, w=LET_BY, tri=FIRM)


class Reaches(Told):
    def test_names(self):
        house = house_of(work(needs="(le (notion aa ()) (num 0))", gives="(le (notion bb ()) (num 0))", spends="(notion cc ())", block=f"""
            (if {YES} ((do x dd ())) ((while {YES} ((le (notion ee ()) (num 0))) ((use ff ((notion gg ()))))))) (hold {NOT_KNOWN}) (give (num 0))"""),
                         "(notion cc 1 ((n number)) (notion hh ()) (notion ii ()))", claim("ff", block="(use w ())"))
        self.assertEqual(house.reaches("w"), ["aa", "bb", "cc", "dd", "ee", "ff", "gg", "hh", "ii", "none", "w"])
        self.assertEqual(house.reaches("ff"), house.reaches("w"))
        self.assertEqual(house.reaches("cc"), ["cc", "hh", "ii"])
        self.assertEqual(house_of(work()).reaches("w"), ["w"])


if __name__ == "__main__":
    unittest.main()
