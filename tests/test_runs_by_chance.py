"""Books by chance: runs, goals and leaps against a plainer second reckoning, and what is promised of breaks."""

import random
import unittest

from any_books import any_book, any_inputs, any_worth
from goals_by_hand import goals_by_hand, leaps_over_the_bundle
from leapwork.goals import goal_number, goals_of
from leapwork.leaps import leap
from leapwork.terms import letters_of
from leapwork.walk import walk
from leapwork.worths import looked
from runs_by_hand import walked_by_hand


class Runs(unittest.TestCase):
    def each(self, seeds):
        """Books, each with the name of a work or claim of it, and the chance to go on with."""
        for seed in seeds:
            chance = random.Random(seed)
            book = any_book(chance)
            for name in sorted(book):
                if book[name][0] != "notion":
                    yield chance, book, name

    def test_walks(self):
        words, ends = set(), set()
        for chance, book, name in self.each(range(120)):
            before = dict(book)
            for _ in range(4):
                inputs = any_inputs(chance, book[name][2])
                ticks = chance.choice((0, 1, 2, 5, 40, 300))
                told = walk(book, name, inputs, ticks=ticks)
                self.assertEqual(told, walked_by_hand(book, name, inputs, ticks))
                ends.add(told[0][0])
                words.update([told[0][2][1]] if told[0][0] == "break" else [])
            self.assertEqual(book, before)
        self.assertLessEqual({"break", "gave", "tired", "stuck", "unfit"}, ends)
        self.assertLessEqual({"spends", "place", "needs", "left", "hold", "round", "gives"}, words)

    def test_goals(self):
        for chance, book, name in self.each(range(1000, 1030)):
            goals = goals_of(book, name)
            self.assertEqual(goals, goals_by_hand(book, name))
            self.assertEqual([goal_number(book, name, look, way) for way, look, _, _ in goals], list(range(len(goals))))

    def test_leaps(self):
        ends = set()
        for chance, book, name in self.each(range(2000, 2020)):
            goals = goals_of(book, name)
            for number in chance.sample(range(len(goals)), min(3, len(goals))):
                kinds = dict(letter for saying in goals[number][2] for letter in letters_of(saying))
                for _ in range(3):
                    worths = tuple(any_worth(chance, kinds[at]) for at in range(len(kinds)))
                    told, due = leap(book, name, number, worths), leaps_over_the_bundle(book, goals[number], worths)
                    # What is asked over the worths may be shorter than over the bundle.
                    if due[0] != "passed":
                        self.assertEqual(told, due)
                    ends.add(told[0])
        self.assertEqual(ends, {"breaks", "so", "astray", "passed"})

    def test_breaks_are_goals(self):
        many = 0
        for chance, book, name in self.each(range(3000, 3040)):
            notions = {each: text for each, text in book.items() if text[0] == "notion"}
            for _ in range(3):
                end, _, passed = walk(book, name, any_inputs(chance, book[name][2]))
                if end[0] != "break" or passed:
                    continue
                _, owner, look, way, met = end
                number = goal_number(book, owner, look, way)
                self.assertIsNotNone(number, end)
                _, _, bundle, letters = goals_of(book, owner)[number]
                self.assertLessEqual(set(letters), set(met))
                table = {at: met[letter] for at, letter in enumerate(letters)}
                for saying in bundle:
                    truth, count = looked(saying, table, notions)
                    self.assertTrue(truth or count > 400, (end, saying))
                self.assertEqual(leap(book, owner, number, tuple(met[letter] for letter in letters)), ("breaks",))
                many += 1
        self.assertGreater(many, 150)


if __name__ == "__main__":
    unittest.main()
