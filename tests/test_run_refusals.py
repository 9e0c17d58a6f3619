"""What runs refuse: names, inputs, ticks."""

import unittest

from books import TRI, book_of, claim, work
from leapwork.errors import NoInputs, NoName, NoTicks
from leapwork.machine import run_code
from leapwork.walk import walk
from samples import ANYTHING

BIG = 10 ** 200 - 1


def looked(book, name, inputs=(), *, ticks=2000):
    return run_code(book, name, inputs, ticks=ticks)


def bare(book, name, inputs=(), *, ticks=2000):
    return run_code(book, name, inputs, ticks=ticks, looked=False)


class Refusals(unittest.TestCase):
    WAYS = (walk, looked, bare)

    def setUp(self):
        self.book = book_of(work(letters="(a number) (r row)"), claim(letters="(a number) (r row)"), TRI, work("v", letters=""))

    def runs(self):
        """Each way to run a text of these letters."""
        for run in self.WAYS:
            yield run, "w"
            if run is not bare:
                yield run, "c"

    def right(self, *inputs):
        for run, name in self.runs():
            self.assertEqual(run(self.book, name, inputs)[1:], (0, []))

    def wrong(self, inputs):
        for run, name in self.runs():
            with self.assertRaises(NoInputs):
                run(self.book, name, inputs)

    def test_names(self):
        for name in [*[thing for thing in ANYTHING if not isinstance(thing, float)], "tri", "x", "W", ("w",), ["w"]]:
            for run in self.WAYS:
                with self.assertRaises(NoName) as caught:
                    run(self.book, name, (1, (0, ())))
                self.assertEqual(caught.exception.name, name)

    def test_a_claim_by_bare(self):
        with self.assertRaises(NoName) as caught:
            bare(self.book, "c", (1, (0, ())))
        self.assertEqual(caught.exception.name, "c")

    def test_inputs_that_are_none(self):
        for thing in ANYTHING:
            self.wrong(thing)
        row = (2, ((0, 1),))
        for inputs in ((), (1,), (row,), (1, row, 1), [1, row], (row, 1), (1, 1), (row, row), (None, row), (True, row), ("1", row),
                       ((1,), row), (1, None), (1, [2, ()])):
            self.wrong(inputs)
        for run in self.WAYS:
            self.assertEqual(run(self.book, "v")[0], ("gave", 0))
            self.assertEqual(run(self.book, "v", ())[0], ("gave", 0))
            with self.assertRaises(NoInputs):
                run(self.book, "w")
            for inputs in ((1,), [], None, 0, ((),)):
                with self.assertRaises(NoInputs):
                    run(self.book, "v", inputs)

    def test_rows_that_are_no_worths(self):
        for row in ((), (2,), (2, (), ()), (-1, ()), (True, ()), (None, ()), ("2", ()), (2, None), (2, [(0, 1)]), (2, 1), (2, (1,)),
                    (2, ((0,),)), (2, ((0, 1, 2),)), (2, ([0, 1],)), (2, ((0, 0),)), (2, ((0, 1), (0, 1))), (2, ((1, 1), (0, 1))),
                    (2, ((0, 1), (1, 0))), (2, ((True, 1),)), (2, ((0, True),)), (2, ((0, None),)), (2, (("0", 1),)), ((2,), ())):
            self.wrong((1, row))
        for row in ((0, ()), (2, ((0, 1),)), (2, ((-5, 1), (0, -1), (7, 3))), (0, ((0, 1),))):
            self.right(1, row)

    def test_two_hundred_figures(self):
        for number in (BIG, -BIG, 0):
            self.right(number, (0, ()))
            if number:
                self.right(1, (2, ((0, number),)))
            self.right(1, (2, ((number, 5),)))
        for number in (BIG + 1, -BIG - 1, 10 ** 5000):
            self.wrong((number, (0, ())))
            self.wrong((1, (2, ((0, number),))))
            self.wrong((1, (2, ((number, 5),))))

    def test_sizes(self):
        self.right(1, (10 ** 6, ()))
        self.wrong((1, (10 ** 6 + 1, ())))

    def test_sixty_places(self):
        places = tuple((place, 1) for place in range(61))
        self.right(1, (100, places[:60]))
        self.wrong((1, (100, places)))

    def test_ticks(self):
        for run, name in self.runs():
            for ticks in (0, 1, 1999, 2000):
                self.assertEqual(run(self.book, name, (1, (0, ())), ticks=ticks)[1:], (0, []))
            for ticks in (-1, 2001, 10 ** 300, -10 ** 300, True, False, None, "5", (5,), [5], ()):
                with self.assertRaises(NoTicks):
                    run(self.book, name, (1, (0, ())), ticks=ticks)

    def test_several_at_once(self):
        for run in self.WAYS:
            with self.assertRaises(NoName):
                run(self.book, "none", None, ticks=None)
            with self.assertRaises(NoInputs):
                run(self.book, "w", None, ticks=None)
            with self.assertRaises(NoTicks):
                run(self.book, "w", (1, (0, ())), ticks=None)
        with self.assertRaises(NoName):
            bare(self.book, "c", None, ticks=None)


if __name__ == "__main__":
    unittest.main()
