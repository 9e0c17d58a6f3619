"""The promise over the whole program: breaks are goals, what is let by never breaks, what stands says all, papers are right."""

import random
import unittest

from any_books import any_book, any_inputs, any_worth
from books import TRI, text_of
from leapwork.box import inputs_at
from leapwork.errors import WorkError
from leapwork.goals import goal_number
from leapwork.house import House
from leapwork.judge import judged
from leapwork.terms import letters_of
from leapwork.worths import looked, truth_of, worth_of
from proofs import good_book, settle

WAYS = ("walk", "looked", "bare")


def house_of(book, floor=True):
    house = House(floor=floor)
    for name in book:
        house.put(book[name])
    return house


def seen(house):
    names = house.names()
    return (names, [house.text(name) for name in names], house.papers(), [house.paper(one) for one in house.papers()],
            [(house.goals(name), house.reaches(name), house.settled(name), house.told(name)) for name in names])


class Breaks(unittest.TestCase):
    """(a)"""

    def test_each_is_a_goal_that_is_not_settled(self):
        many = 0
        for seed in range(6000, 6018):
            chance = random.Random(seed)
            book = any_book(chance)
            house = house_of(book)
            notions = {name: text for name, text in book.items() if text[0] == "notion"}
            for name in sorted(book):
                for _ in range(3 if name not in notions else 0):
                    inputs = any_inputs(chance, book[name][2])
                    end, _, passed = house.run(name, inputs)
                    if end[0] == "break" and not passed:
                        self.assertEqual(house.run(name, inputs, by="looked")[0], end[:3])
                        self.check(house, book, notions, end)
                        many += 1
        self.assertGreater(many, 100)

    def check(self, house, book, notions, end):
        _, owner, look, way, met = end
        number = goal_number(book, owner, look, way)
        self.assertEqual(house.goals(owner)[number][:2], (way, look))
        self.assertFalse(house.settled(owner)[number], end)
        self.assertIn(house.told(owner)[0], ("open", "broken"))
        _, _, bundle, letters = house.goals(owner)[number]
        table = {at: met[letter] for at, letter in enumerate(letters)}
        for saying in bundle:
            truth, count = looked(saying, table, notions)
            self.assertTrue(truth or count > 400)
        self.assertEqual(house.leap(owner, number, tuple(met[letter] for letter in letters)), ("breaks",))


class LetBy(unittest.TestCase):
    """(b)"""

    def check(self, house, name, inputs, chance):
        """Three ways alike, no break, what is given, and ticks enough."""
        text = house.text(name)
        book = {each: house.text(each) for each in house.names()}
        notions = {each: one for each, one in book.items() if one[0] == "notion"}
        table = {letter: worth for (letter, _), worth in zip(text[2], inputs)}
        needs, gives, spends = text[-4], text[-3], text[-2]
        if not all(truth_of(need, table, notions) for need in needs):
            return None
        ticks = chance.choice((0, 1, 5, 40, 2000))
        told = house.run(name, inputs, ticks=ticks)
        self.assertNotEqual(told[0][0], "break")
        self.assertEqual(house.run(name, inputs, ticks=ticks, by="looked"), told)
        if text[0] == "work":
            self.assertEqual(house.run(name, inputs, ticks=ticks, by="bare")[:2], told[:2])
        enough = worth_of(spends, table, notions)
        if enough is not None and enough <= 2000:
            self.assertNotEqual(house.run(name, inputs, ticks=enough)[0], ("tired",))
        if told[0][0] == "gave":
            for give in gives:
                self.assertIn(truth_of(give, {**table, "given": told[0][1]}, notions), (True, None))
        return told[0][0]

    def test_good_ones(self):
        book = good_book()
        house = house_of(book)
        for name in book:
            settle(house, name, {"tri": book["tri"]})
        chance = random.Random(7)
        ends = []
        for name in book:
            if name == "tri":
                continue
            self.assertEqual(house.told(name), ("let by",))
            for k in [*range(16), *[chance.randrange(90) for _ in range(6)], 2 * 10 ** 4]:
                ends.append(self.check(house, name, inputs_at(book[name][2], k), chance))
        self.assertLessEqual({"gave", "tired", "deep"}, set(ends))
        self.assertGreater(ends.count("gave"), 60)

    def test_by_chance(self):
        many = 0
        for seed in range(7000, 7018):
            chance = random.Random(seed)
            book = any_book(chance)
            house = house_of(book)
            for name in sorted(book):
                if house.told(name) == ("let by",):
                    many += 1
                    for _ in range(6):
                        self.check(house, name, any_inputs(chance, book[name][2]), chance)
        self.assertGreater(many, 10)


class Stands(unittest.TestCase):
    """(c)"""

    def deed(self, house, chance, texts, papers):
        """Do any deed; some are refused."""
        text, (bundle, paper) = chance.choice(texts), chance.choice(papers)
        deeds = [(house.put, text), (house.put, text), (house.swap, text), (house.swap, text), (house.take_out, text[1]), (house.hand, bundle, paper),
                 (house.hand, bundle, paper), (house.drop, bundle), (house.mark,), (house.back, chance.randrange(7)), (house.put, text[:-1]),
                 (house.hand, bundle, None), (house.take_out, None)]
        deed, *parts = chance.choice(deeds)
        before, marks = seen(house), house.marks()
        bundles = self.bundles(house)
        try:
            told = deed(*parts)
        except WorkError:
            self.assertEqual((seen(house), house.marks()), (before, marks))
            return None
        if deed in (house.put, house.swap, house.take_out, house.back):
            self.assertEqual(told, [one for one in self.bundles(house) if one not in bundles])
        return deed, parts

    def bundles(self, house):
        found = []
        for name in house.names():
            for _, _, bundle, _ in house.goals(name):
                if bundle is not None and bundle not in found:
                    found.append(bundle)
        return found

    def anew(self, house, floor, chance):
        """A house made anew of the same texts and papers in another order."""
        other = House(floor=floor)
        things = [(other.put, house.text(name)) for name in house.names()] + [(other.hand, one, house.paper(one)) for one in house.papers()]
        chance.shuffle(things)
        for deed, *parts in things:
            deed(*parts)
        return other

    def test_histories(self):
        done = 0
        good = good_book()
        proved = house_of(good)
        for name in good:
            settle(proved, name, {"tri": good["tri"]})
        proofs = [(one, proved.paper(one)) for one in proved.papers()]
        for seed in range(8000, 8006):
            chance = random.Random(seed)
            floor = chance.random() < 0.6
            house = House(floor=floor)
            books = [any_book(chance), any_book(chance), good]
            texts = [text for book in books for text in book.values()] + [text_of(TRI.replace("(num 0) (add", "(num 1) (add"))]
            papers = proofs + [(bundle, ("lines", ((((0, 1),), 1),))) for _, _, bundle, _ in house_of(books[0]).goals(sorted(books[0])[0])]
            marked = {}
            for _ in range(35):
                deed = self.deed(house, chance, texts, papers)
                if deed is None:
                    continue
                done += 1
                if deed[0] == house.mark:
                    marked[house.marks()[-1]] = seen(house)
                if deed[0] == house.back:
                    self.assertEqual(seen(house), marked[deed[1][0]])
                    self.assertEqual(house.marks(), list(range(deed[1][0] + 1)))
            self.assertEqual(seen(self.anew(house, floor, chance)), seen(house))
        self.assertGreater(done, 60)


class Papers(unittest.TestCase):
    """(d)"""

    def test_no_bundle_with_a_right_paper_is_so(self):
        book = good_book()
        house = house_of(book)
        for name in book:
            settle(house, name, {"tri": book["tri"]})
        chance = random.Random(9)
        self.assertTrue(all(judged(bundle, {"tri": book["tri"]}, house.paper(bundle)) == ("right",) for bundle in house.papers()))
        settled = [goal[2] for name in book for goal, is_settled in zip(house.goals(name), house.settled(name)) if is_settled]
        for bundle in settled:
            kinds = dict(letter for saying in bundle for letter in letters_of(saying))
            for _ in range(40):
                table = {letter: any_worth(chance, kind) for letter, kind in kinds.items()}
                self.assertFalse(all(truth_of(saying, table, {"tri": book["tri"]}) for saying in bundle))

    def test_goals_settled_by_the_floor_never_break(self):
        for seed in range(9000, 9010):
            chance = random.Random(seed)
            book = any_book(chance)
            house = house_of(book)
            for name in house.names():
                for number, is_settled in enumerate(house.settled(name)):
                    if is_settled:
                        kinds = dict(letter for saying in house.goals(name)[number][2] for letter in letters_of(saying))
                        worths = tuple(any_worth(chance, kinds[at]) for at in range(len(kinds)))
                        self.assertNotEqual(house.leap(name, number, worths), ("breaks",))


if __name__ == "__main__":
    unittest.main()
