"""Deeds [14, 15]: what each kind from 8 to 19 comes to, and what it does to the rows [2]."""

import copy
import random
import unittest

from ownchain.deeds import worth
from programs import second_deed

HUNDRED = 10 ** 100 - 1
ADD, SUB, MUL, QUO, REST, LESS, SAME, PUSH, AT, PUT, SIZE, NEW = range(8, 20)


def some_rows():
    return [[4, 5, 6], [], [7]]


class Deed(unittest.TestCase):
    def assertWorth(self, value, kind, values, rows=None, after=None):
        """It comes to the value; the rows are as told behind it, or as they were."""
        rows = some_rows() if rows is None else rows
        after = copy.deepcopy(rows) if after is None else after
        handed = list(values)
        told = worth(kind, values, rows)
        self.assertEqual(told, (None, value), (kind, handed))
        self.assertEqual((type(told), type(told[1])), (tuple, int), (kind, handed))
        self.assertEqual(values, handed)
        self.assertEqual(rows, after)

    def assertFault(self, word, kind, values, rows=None):
        rows = some_rows() if rows is None else rows
        before = copy.deepcopy(rows)
        handed = list(values)
        told = worth(kind, values, rows)
        self.assertEqual(told, (word, 0), (kind, handed))
        self.assertEqual([type(thing) for thing in told], [str, int])
        self.assertEqual(values, handed)
        self.assertEqual(rows, before)


class Reckoning(Deed):
    def test_add_sub_mul(self):
        for first in (-7, -1, 0, 1, 3, 10 ** 60):
            for second in (-5, -1, 0, 1, 2, 10 ** 39 - 1):
                self.assertWorth(first + second, ADD, [first, second])
                self.assertWorth(first - second, SUB, [first, second])
                self.assertWorth(first * second, MUL, [first, second])

    def test_quotients_are_rounded_down(self):
        for first, second, quo, rest in (
            (7, 2, 3, 1), (-7, 2, -4, 1), (7, -2, -4, -1), (-7, -2, 3, -1),
            (6, 2, 3, 0), (-6, 2, -3, 0), (6, -2, -3, 0), (-6, -2, 3, 0),
            (1, 3, 0, 1), (-1, 3, -1, 2), (1, -3, -1, -2), (-1, -3, 0, -1),
            (0, 3, 0, 0), (0, -3, 0, 0), (5, 1, 5, 0), (5, -1, -5, 0), (-5, 1, -5, 0), (-5, -1, 5, 0),
        ):
            self.assertWorth(quo, QUO, [first, second])
            self.assertWorth(rest, REST, [first, second])

    def test_quotients_of_great_numbers(self):
        self.assertWorth(HUNDRED, QUO, [HUNDRED, 1])
        self.assertWorth(-HUNDRED, QUO, [HUNDRED, -1])
        self.assertWorth(-5 * 10 ** 99, QUO, [-HUNDRED, 2])
        self.assertWorth(1, REST, [-HUNDRED, 2])
        self.assertWorth(0, QUO, [1, HUNDRED])
        self.assertWorth(-1, QUO, [-1, HUNDRED])
        self.assertWorth(HUNDRED - 1, REST, [-1, HUNDRED])
        self.assertWorth(1 - HUNDRED, REST, [1, -HUNDRED])

    def test_zero(self):
        for first in (0, 1, -1, 7, HUNDRED, -HUNDRED):
            self.assertFault("zero", QUO, [first, 0])
            self.assertFault("zero", REST, [first, 0])

    def test_less_and_same(self):
        numbers = (-HUNDRED, -2, -1, 0, 1, 2, HUNDRED - 1, HUNDRED)
        for place, first in enumerate(numbers):
            for other, second in enumerate(numbers):
                # Made anew, so that they are alike and not merely one and the same.
                second = int(str(second))
                self.assertWorth(1 if place < other else 0, LESS, [first, second])
                self.assertWorth(1 if place == other else 0, SAME, [first, second])

    def test_a_hundred_figures_are_not_great(self):
        self.assertWorth(HUNDRED, ADD, [HUNDRED - 1, 1])
        self.assertWorth(-HUNDRED, ADD, [1 - HUNDRED, -1])
        self.assertWorth(HUNDRED, SUB, [HUNDRED - 1, -1])
        self.assertWorth(-HUNDRED, SUB, [1 - HUNDRED, 1])
        self.assertWorth(10 ** 99, MUL, [10 ** 50, 10 ** 49])
        self.assertWorth(-10 ** 99, MUL, [-10 ** 50, 10 ** 49])
        self.assertWorth(HUNDRED, MUL, [HUNDRED, 1])
        self.assertWorth(HUNDRED, MUL, [-HUNDRED, -1])
        self.assertWorth(0, MUL, [HUNDRED, 0])
        self.assertWorth(0, ADD, [HUNDRED, -HUNDRED])

    def test_a_hundred_and_one_are_great(self):
        self.assertFault("great", ADD, [HUNDRED, 1])
        self.assertFault("great", ADD, [-HUNDRED, -1])
        self.assertFault("great", ADD, [HUNDRED, HUNDRED])
        self.assertFault("great", SUB, [HUNDRED, -1])
        self.assertFault("great", SUB, [-HUNDRED, 1])
        self.assertFault("great", MUL, [10 ** 50, 10 ** 50])
        self.assertFault("great", MUL, [-10 ** 50, 10 ** 50])
        self.assertFault("great", MUL, [HUNDRED, HUNDRED])
        self.assertFault("great", MUL, [HUNDRED, -HUNDRED])
        self.assertFault("great", MUL, [5 * 10 ** 99, 2])

    def test_rows_are_not_looked_at(self):
        for kind in range(ADD, PUSH):
            worth(kind, [7, 2], [])
            self.assertWorth(worth(kind, [7, 2], [])[1], kind, [7, 2])


class Rows(Deed):
    def test_new(self):
        self.assertWorth(3, NEW, [], None, some_rows() + [[]])
        self.assertWorth(0, NEW, [], [], [[]])
        self.assertWorth(2, NEW, [], [[], [1]], [[], [1], []])

    def test_rows_that_are_new_are_not_one(self):
        rows = []
        for number in range(3):
            self.assertEqual(worth(NEW, [], rows), (None, number))
        worth(PUSH, [1, 8], rows)
        self.assertEqual(rows, [[], [8], []])

    def test_push(self):
        self.assertWorth(9, PUSH, [0, 9], None, [[4, 5, 6, 9], [], [7]])
        self.assertWorth(-9, PUSH, [1, -9], None, [[4, 5, 6], [-9], [7]])
        self.assertWorth(HUNDRED, PUSH, [2, HUNDRED], None, [[4, 5, 6], [], [7, HUNDRED]])

    def test_at(self):
        for place, value in enumerate((4, 5, 6)):
            self.assertWorth(value, AT, [0, place])
        self.assertWorth(7, AT, [2, 0])
        self.assertWorth(-HUNDRED, AT, [0, 0], [[-HUNDRED]])

    def test_put(self):
        self.assertWorth(9, PUT, [0, 0, 9], None, [[9, 5, 6], [], [7]])
        self.assertWorth(9, PUT, [0, 1, 9], None, [[4, 9, 6], [], [7]])
        self.assertWorth(-9, PUT, [0, 2, -9], None, [[4, 5, -9], [], [7]])
        self.assertWorth(HUNDRED, PUT, [2, 0, HUNDRED], None, [[4, 5, 6], [], [HUNDRED]])

    def test_size(self):
        for number, size in enumerate((3, 0, 1)):
            self.assertWorth(size, SIZE, [number])

    def test_no_such_row(self):
        for number in (-1, -2, -3, -4, 3, 4, HUNDRED, -HUNDRED):
            self.assertFault("row", PUSH, [number, 9])
            self.assertFault("row", AT, [number, 0])
            self.assertFault("row", PUT, [number, 0, 9])
            self.assertFault("row", SIZE, [number])
        for kind, values in ((PUSH, [0, 9]), (AT, [0, 0]), (PUT, [0, 0, 9]), (SIZE, [0])):
            self.assertFault("row", kind, values, [])

    def test_no_such_place(self):
        for number, size in enumerate((3, 0, 1)):
            for place in (-1, -2, -3, size, size + 1, HUNDRED, -HUNDRED):
                self.assertFault("place", AT, [number, place])
                self.assertFault("place", PUT, [number, place, 9])

    def test_row_goes_ahead_of_place(self):
        for number in (-1, 3, HUNDRED):
            for place in (-1, 3, HUNDRED):
                self.assertFault("row", AT, [number, place])
                self.assertFault("row", PUT, [number, place, 9])

    def test_rows_stay_the_lists_that_they_are(self):
        rows = some_rows()
        lists = list(rows)
        for kind, values in ((PUSH, [0, 1]), (PUT, [0, 0, 2]), (AT, [0, 0]), (SIZE, [0]), (NEW, [])):
            worth(kind, values, rows)
        self.assertEqual(rows, [[2, 5, 6, 1], [], [7], []])
        for row, before in zip(rows, lists):
            self.assertIs(row, before)

    def test_values_changed_later_change_no_row(self):
        rows = some_rows()
        values = [1, 8]
        told = worth(PUSH, values, rows)
        values[1] = 3
        values.clear()
        self.assertEqual((told, rows), ((None, 8), [[4, 5, 6], [8], [7]]))


class SecondDeed(Deed):
    def test_random_values(self):
        dice = random.Random(14)
        many = {PUT: 3, SIZE: 1, NEW: 0}
        for turn in range(4000):
            kind = dice.randint(ADD, NEW)
            numbers = (dice.randint(-3, 5), dice.randint(-HUNDRED, HUNDRED), 10 ** 50, -10 ** 50, HUNDRED)
            values = [dice.choice((dice.randint(-1, 4),) * 4 + numbers) for part in range(many.get(kind, 2))]
            rows, others = some_rows(), some_rows()
            due = second_deed(kind, list(values), others)
            self.assertEqual(worth(kind, values, rows), (due, 0) if isinstance(due, str) else (None, due))
            self.assertEqual(rows, others)


if __name__ == "__main__":
    unittest.main()
