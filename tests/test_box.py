"""The box: numbers dealt, inputs by their numbers, and texts that break at one of the first."""

import random
import unittest

from any_books import any_book
from books import LOOSE, NO, NOT_KNOWN, TRI, YES, book_of, claim, work
from leapwork.box import broken, dealt, inputs_at, number_of
from leapwork.errors import NoInputs, NoName
from leapwork.walk import walk
from samples import ANYTHING

A, R = ("a", "number"), ("r", "row")
LETTERS = [(), (A,), (R,), (A, ("b", "number")), (A, R), (R, A), (R, ("s", "row")), (A, R, ("s", "row"), ("b", "number"))]


def figures(number):
    """The figures by two, the last one first."""
    found = []
    while number:
        found.append(number % 2)
        number //= 2
    return found


def made(figures):
    number = 0
    for figure in reversed(figures):
        number = 2 * number + figure
    return number


class Dealt(unittest.TestCase):
    def test_small_numbers(self):
        for k, many, numbers in ((0, 1, [0]), (0, 3, [0, 0, 0]), (1, 1, [1]), (6, 1, [6]), (1, 2, [1, 0]), (2, 2, [0, 1]), (3, 2, [1, 1]),
                                 (0b110101, 2, [0b111, 0b100]), (0b110101, 3, [0b01, 0b10, 0b11]), (5, 4, [1, 0, 1, 0]), (16, 4, [2, 0, 0, 0])):
            self.assertEqual(dealt(k, many), numbers)

    def test_by_hand(self):
        chance = random.Random(1)
        for _ in range(300):
            k, many = chance.choice((chance.randrange(200), chance.randrange(10 ** 30))), chance.randrange(1, 8)
            hands = [[] for _ in range(many)]
            for at, figure in enumerate(figures(k)):
                hands[at % many].append(figure)
            self.assertEqual(dealt(k, many), [made(hand) for hand in hands])

    def test_new_lists(self):
        one = dealt(5, 2)
        one.clear()
        self.assertEqual(dealt(5, 2), [3, 0])


class Inputs(unittest.TestCase):
    def both(self, letters, k, inputs):
        self.assertEqual(inputs_at(letters, k), inputs)
        self.assertEqual(number_of(letters, inputs), k)

    def test_numbers(self):
        for k, a in ((0, 0), (1, 1), (2, -1), (3, 2), (4, -2), (5, 3), (2 * 10 ** 30 - 1, 10 ** 30), (2 * 10 ** 30, -10 ** 30)):
            self.both((A,), k, (a,))

    def test_rows(self):
        for k, row in ((0, (0, ())), (1, (1, ())), (2, (2, ())), (3, (1, ((0, 1),))), (4, (3, ())), (5, (1, ((0, -1),))), (6, (2, ((0, 1),))),
                       (7, (1, ((0, 2),))), (8, (4, ())), (10, (2, ((1, 1),))), (14, (2, ((0, 1), (1, 1)))), (2 ** 40, (41, ())),
                       (2 ** 2 * (2 * 0b110101 + 1), (3, ((0, 1), (1, -1), (2, 2))))):
            self.both((R,), k, (row,))

    def test_several_letters(self):
        # A number that is dealt to all of them.
        self.both((A, ("b", "number")), 0b110101, (4, -2))
        self.both((A, R), 0b101101, (2, (2, ((0, 1),))))
        self.both((A, R), 0b111001, (3, (2, ((0, 1),))))
        self.both((R, A), 0b000010, ((0, ()), 1))

    def test_by_hand(self):
        chance = random.Random(2)
        for letters in LETTERS[1:]:
            for k in [*range(120), *[chance.randrange(10 ** chance.choice((3, 12, 30))) for _ in range(40)]]:
                worths = []
                for (_, kind), d in zip(letters, dealt(k, len(letters))):
                    if kind == "number":
                        worths.append((d + 1) // 2 * (1 if d % 2 else -1))
                    elif d == 0:
                        worths.append((0, ()))
                    else:
                        s = 0
                        while d % 2 ** (s + 1) == 0:
                            s += 1
                        numbers = [(q + 1) // 2 * (1 if q % 2 else -1) for q in dealt((d // 2 ** s - 1) // 2, s + 1)]
                        worths.append((s + 1, tuple((place, number) for place, number in enumerate(numbers) if number)))
                self.both(letters, k, tuple(worths))

    def test_each_list_of_inputs_has_one_number(self):
        for letters in LETTERS[1:]:
            self.assertEqual(len({inputs_at(letters, k) for k in range(500)}), 500)

    def test_great_ones(self):
        self.both((R,), 2 ** 9999, ((10000, ()),))
        self.both((A,), 2 ** 20001, (-2 ** 20000,))
        row = (300, ((0, 10 ** 60), (7, -10 ** 40), (299, 5)))
        self.assertEqual(inputs_at((A, R), number_of((A, R), (-10 ** 70, row))), (-10 ** 70, row))
        self.assertGreater(number_of((R,), ((10 ** 6, ()),)), 0)

    def test_no_letters(self):
        self.both((), 0, ())
        for k in (1, 2, -1, 10 ** 30):
            with self.assertRaises(NoInputs):
                inputs_at((), k)

    def test_no_numbers(self):
        for k in [*[thing for thing in ANYTHING if thing not in (0, 1, 10 ** 5000) or isinstance(thing, bool)], -1, -10 ** 30, "1", (1,)]:
            for letters in LETTERS:
                with self.assertRaises(NoInputs):
                    inputs_at(letters, k)

    def test_no_inputs(self):
        row = (2, ((0, 1),))
        for inputs in [*ANYTHING, (), (1,), (row,), (1, row, 1), [1, row], (row, 1), (1, 1), (True, row), (None, row), (1, [2, ()]), (1, (2,)),
                       (1, (-1, ())), (1, (2, ((0, 0),))), (1, (2, ((1, 1), (0, 1)))), (1, (2, [])), (1, (2, ((0, None),)))]:
            with self.assertRaises(NoInputs):
                number_of((A, R), inputs)
        for inputs in ((1,), None, [], 0):
            with self.assertRaises(NoInputs):
                number_of((), inputs)
        self.assertEqual(inputs_at((A, R), number_of((A, R), (1, row))), (1, row))

    def test_numbers_beyond_a_rows_ends(self):
        for row in ((2, ((2, 1),)), (2, ((-1, 1),)), (0, ((0, 1),)), (2, ((0, 1), (1, 1), (2, 1)))):
            with self.assertRaises(NoInputs):
                number_of((R,), (row,))
        self.assertEqual(number_of((R,), ((2, ((0, 1), (1, 1))),)), 14)


class Broken(unittest.TestCase):
    def test_the_first_that_breaks(self):
        # The inputs are 0, 1, -1, 2, -2 and so on.
        for hold, k in (("(le (name a) (num 0))", 1), ("(le (num -1) (name a))", 4), ("(le (name a) (num 5))", 11), (NO, 0)):
            for text in (work(block=f"(hold {hold}) (give (num 0))"), claim("w", block=f"(hold {hold})")):
                book = book_of(text)
                end = walk(book, "w", inputs_at(book["w"][2], k))[0]
                self.assertEqual(broken(book, "w"), (k, end))
                self.assertEqual(end[0], "break")

    def test_none(self):
        self.assertIsNone(broken(book_of(work()), "w"))
        # The thirteenth comes too late.
        self.assertIsNone(broken(book_of(work(block="(hold (le (num -5) (name a))) (give (num 0))")), "w"))
        self.assertIsNotNone(broken(book_of(work(block="(hold (le (num -5) (name a))) (give (num 0))")), "w", first=13))
        self.assertIsNone(broken(book_of(work(block="(hold (le (name a) (num 0))) (give (num 0))")), "w", first=1))

    def test_inputs_that_needs_forbid(self):
        book = book_of(work(needs="(le (num 0) (name a)) (not (eq (name a) (num 1)))", block="(hold (eq (name a) (num 0))) (give (num 0))"))
        self.assertEqual(broken(book, "w")[0], 3)
        # A need without a worth isn't fulfilled.
        book = book_of(work(needs="(le (notion tri ((mul 200 (name a)))) (num 999999))", block="(hold (le (name a) (num -1))) (give (num 0))"), TRI)
        self.assertEqual(broken(book, "w")[0], 0)
        book = book_of(work(needs="(le (notion tri ((mul 200 (name a)))) (num 999999))", block="(hold (le (name a) (num 1))) (give (num 0))"), TRI)
        self.assertIsNone(broken(book, "w"))
        self.assertIsNone(broken(book_of(work(needs=f"{YES} {NOT_KNOWN}", block=f"(hold {NO}) (give (num 0))")), "w"))

    def test_runs_that_break_elsewhere(self):
        callee = work("v", block="(hold (le (name a) (num 0))) (give (num 0))")
        book = book_of(work(block="(do x v ((name a))) (hold (not (eq (name a) (num -2)))) (give (num 0))", spends="(num 20)"), callee)
        self.assertEqual(broken(book, "v")[0], 1)
        self.assertEqual(broken(book, "w")[0], 4)
        book = book_of(work(block="(use c ((name a))) (give (num 0))"), claim(block="(hold (le (name a) (num 0)))"))
        self.assertIsNone(broken(book, "w"))
        self.assertEqual(broken(book, "c")[0], 1)
        # A frame of the very text, though not the run's own, counts.
        book = book_of(work(block="(if (le (name a) (num 0)) ((give (num 0))) ()) (do x v ((name a))) (give (num 0))", spends="(num 99)",
                            needs="(le (num 0) (name a))"),
                       work("v", block="(do x w ((add (name a) (num -2)))) (give (num 0))", spends="(num 9)"))
        self.assertIsNone(broken(book, "w"))

    def test_runs_that_pass_something_over(self):
        hold = "(hold (le (name a) (num 0)))"
        for passed in (f"(hold {NOT_KNOWN})", "(use none ())"):
            book = book_of(work(block=f"(if (eq (name a) (num 1)) ({passed}) ()) {hold} (give (num 0))"))
            self.assertEqual(broken(book, "w")[0], 3)
        book = book_of(work(block=f"(use c ()) {hold} (give (num 0))"), claim(letters="", block=f"(hold {NOT_KNOWN})"))
        self.assertIsNone(broken(book, "w"))
        book = book_of(work(block=f"(hold (le (notion loose ((name a))) (num 99))) {hold} (give (num 0))"), TRI, LOOSE)
        self.assertIsNone(broken(book, "w"))

    def test_forty_ticks(self):
        block = "(while (le (name x) (num {})) () ((set x (add (name x) (num 1))))) (hold {}) (give (num 0))"
        self.assertEqual(broken(book_of(work(block=block.format(39, NO), spends="(num 99)")), "w")[0], 0)
        book = book_of(work(block=block.format(40, NO), spends="(num 99)"))
        self.assertIsNone(broken(book, "w"))
        self.assertEqual(broken(book, "w", ticks=41)[0], 0)
        self.assertIsNone(broken(book_of(work(block=block.format(39, NO), spends="(num 99)")), "w", ticks=39))

    def test_without_letters_there_is_0_alone(self):
        book = book_of(work(letters="", block=f"(hold {NO}) (give (num 0))"), claim(letters="", block=f"(hold {YES})"))
        self.assertEqual(broken(book, "w"), (0, ("break", "w", (1, "hold", 0), (), {})))
        self.assertIsNone(broken(book, "c"))
        self.assertIsNone(broken(book, "w", first=0))

    def test_of_rows(self):
        book = book_of(work(letters="(r row) (a number)", own="", block="(give (read (row r) (name a)))"))
        self.assertEqual(broken(book, "w")[0], 0)
        book = book_of(work(letters="(r row)", own="", block="(hold (not (eq (size (row r)) (num 3)))) (give (num 0))"))
        self.assertEqual(broken(book, "w")[0], 4)

    def test_names(self):
        book = book_of(work(), TRI)
        for thing in [*ANYTHING, "tri", "x", "W"]:
            if not isinstance(thing, float):
                with self.assertRaises(NoName) as caught:
                    broken(book, thing)
                self.assertEqual(caught.exception.name, thing)

    def test_by_chance(self):
        for seed in range(5000, 5030):
            book = any_book(random.Random(seed))
            for name in sorted(book):
                if book[name][0] == "notion":
                    continue
                due = None
                for k in range(12):
                    if book[name][2] or k == 0:
                        end, _, passed = walk(book, name, inputs_at(book[name][2], k), ticks=40)
                        if due is None and end[0] == "break" and end[1] == name and passed == []:
                            due = (k, end)
                self.assertEqual(broken(book, name), due)


if __name__ == "__main__":
    unittest.main()
