"""Bent makers [30], and that nothing handed in is changed [2]."""

import copy
import random
import unittest

from ownchain.bends import parted
from ownchain.errors import ChainError, NoSheet
from ownchain.own import breaths_for, own_sheet, say_due
from ownchain.runner import run
from ownchain.sheets import functions, wrong
from ownchain.texts import read_text
from programs import SIXTY, random_programs, second_made, second_run, second_wrong, small_number

FAULT_WORDS = ("end", "range", "deep", "over")

# Sheets of all kinds, and each word at which a list is none.
LISTS = (
    [1, 0, 0, 0, 7],
    [],
    [1, 0, 2, 3, 3, 2, 1, 19, 1, 1, 7, 18, 0, -5],
    [1, 0, 1, 4, 2, 1, 0, 5, 1, 0, 19, 0, SIXTY],
    [3, 0, 1, 2, 3, 0, 0, 6, 1, 6, 2, 1, 0, 8, 1, 0, 15, 1, 1, 1, 2, 17, 19, 19, 19],
    [1, 0, 0, 20],
    [1, 0, 0, 19, 4],
    [1, 0, 0] + [18] * 11,
    [2, 0, 0, 5],
    [1, 0, 12, 1, 12],
    [2, 0, 0, 0, 0, 6, 2],
    [1, 0, 0, 3, 13],
    [1, 0, 0, 4, 1],
    [17],
)
BREATHS = 20 * 25 + 20


def sheet_of(text):
    return read_text(text)[1]


def due_of(numbers):
    found = second_wrong(numbers)
    if found is not None:
        return ("no",) + found
    heads, rows, paper = second_made(functions(numbers))
    return ("code", [len(heads)] + [number for thing in heads + rows for number in thing])


def said(outcome):
    word, number, answer = outcome
    if word == "told" and number >= 0:
        return ("no", number // 4, FAULT_WORDS[number % 4])
    return ("code", answer) if word == "done" else ("fault", word)


class Parted(unittest.TestCase):
    def assertParted(self, maker, lists, breaths, due):
        handed = (maker, lists, breaths)
        before = copy.deepcopy(handed)
        told = parted(maker, lists, breaths)
        self.assertEqual(told, due)
        self.assertIn(type(told), (int, type(None)))
        self.assertEqual(handed, before)


class TheOwnMaker(Parted):
    def test_no_lists(self):
        for breaths in (0, 1, 20000):
            self.assertParted(own_sheet(), [], breaths, None)
            self.assertParted(sheet_of("fun m with is 7"), [], breaths, None)

    def test_lists_of_all_sorts(self):
        self.assertParted(own_sheet(), list(LISTS), BREATHS, None)

    def test_random_lists(self):
        dice = random.Random(61)
        lists = [sheet for sheet, told in random_programs(dice, 60, small_number)]
        for sheet in list(lists):
            bent = list(sheet)
            bent[dice.randrange(len(bent))] = dice.randint(-1, 20)
            lists += [bent, sheet[:dice.randrange(len(sheet))], sheet + [dice.randint(-1, 20)]]
        self.assertParted(own_sheet(), lists, 20 * max(len(one) for one in lists) + 20, None)

    def test_its_own_sheet_and_the_longest(self):
        self.assertParted(own_sheet(), [own_sheet(), own_sheet() + [0], [1, 0, 0, 19] + [5] * 896], 18020, None)

    def test_breaths_too_few(self):
        self.assertParted(own_sheet(), [[], [1, 0, 0, 19]], 0, 0)
        self.assertParted(own_sheet(), [[], [17], [1, 0, 0, 19], []], 4, 2)
        # Three for what is none at once: the begin's, and two calls.
        self.assertParted(own_sheet(), [[], [17]], 3, None)
        for least in range(BREATHS):
            if parted(own_sheet(), [LISTS[4]], least) is None:
                break
        self.assertParted(own_sheet(), [LISTS[4]], least, None)
        self.assertParted(own_sheet(), [[], LISTS[4], []], least - 1, 1)
        self.assertLessEqual(least, breaths_for(LISTS[4]))


class BentMakers(Parted):
    def first_other(self, maker, lists, breaths):
        told = functions(maker)
        for number, numbers in enumerate(lists):
            if said(second_run(told, numbers, breaths)) != due_of(numbers):
                return number
        return None

    def bent(self, dice, at):
        """The own maker's sheet with another number at a place, so that it is a sheet still; or None."""
        maker = own_sheet()
        maker[at] += dice.choice((-2, -1, 1, 2))
        return maker if second_wrong(maker) is None else None

    def test_bent_at_one_place(self):
        dice = random.Random(62)
        found = []
        for at in range(0, len(own_sheet()), 2):
            maker = self.bent(dice, at)
            if maker is not None:
                due = self.first_other(maker, LISTS, 300)
                self.assertParted(maker, list(LISTS), 300, due)
                found.append(due)
        self.assertGreater(len(found), 80)
        # By these lists nearly all are told, and not all of them by the same one.
        self.assertGreater(len([due for due in found if due is not None]), len(found) * 3 // 4)
        self.assertGreater(len(set(found)), 5)

    def test_the_first_list_at_which_it_is_another(self):
        # Where the own maker calls with 3 and 0 it makes a drop, in all and in loop: bent, it makes one with 1.
        maker = own_sheet()
        spots = [at for at in range(len(maker)) if maker[at] == 6 and maker[at + 2:at + 6] == [0, 3, 0, 0]]
        self.assertEqual(len(spots), 2)
        for spot in spots:
            maker = own_sheet()
            maker[spot + 5] = 1
            self.assertIsNone(second_wrong(maker))
            with_all, with_loop, neither = [1, 0, 0, 3, 2, 19, 19], [1, 0, 0, 5, 19, 19], [1, 0, 0, 19]
            number = parted(maker, [neither, [], with_all, with_loop], BREATHS)
            self.assertIn(number, (2, 3))
            telling = (with_all, with_loop)[number - 2]
            other = (with_loop, with_all)[number - 2]
            self.assertParted(maker, [telling], BREATHS, 0)
            self.assertParted(maker, [neither, other, [], other], BREATHS, None)
            self.assertParted(maker, [neither, other, telling, telling], BREATHS, 2)

    def test_makers_of_one_code(self):
        maker = sheet_of("fun m with is all 8 push 1 1 push 1 0 push 1 0 push 1 0 push 1 0 push 1 7 push 1 7 push 1 0")
        right, other = [1, 0, 0, 0, 7], [1, 0, 0, 0, 8]
        self.assertEqual(say_due(right), ("code", run(maker, [], 9)[2]))
        self.assertParted(maker, [right], 1, None)
        self.assertParted(maker, [right, right, right], 1, None)
        self.assertParted(maker, [right, right, other, right], 1, 2)
        self.assertParted(maker, [other, right], 1, 0)
        self.assertParted(maker, [right], 0, 0)

    def test_makers_that_fault(self):
        for body in ("fail -1", "quo 1 0", "at 0 99", "at 9 0", "call m", "loop 1 2", f"mul {SIXTY} {SIXTY}"):
            self.assertParted(sheet_of(f"fun m with is {body}"), [[], [1, 0, 0, 19]], 50, 0)

    def test_makers_that_refuse(self):
        # 4 times the place and the word's number: 0 is end at 0, 17 range at 4.
        self.assertParted(sheet_of("fun m with is fail 0"), [[], [], [1]], 5, 2)
        self.assertParted(sheet_of("fun m with is fail 17"), [[1, 0, 0, 1, 0], [1, 0, 0, 0]], 5, 1)
        self.assertParted(sheet_of("fun m with is fail 17"), [[1, 0, 0, 19, 4]], 5, 0)
        self.assertParted(sheet_of("fun m with is fail 19"), [[1, 0, 0, 19, 4]], 5, None)
        self.assertParted(sheet_of("fun m with is fail 54"), [[1, 0, 0] + [18] * 10], 5, None)


class Refused(Parted):
    def test_a_maker_that_is_no_sheet(self):
        for maker in ([], [1], [17], [1, 0, 0, 20], [1, 0, 0, 19, 19], [1, 0, 0] + [18] * 10):
            for lists in ([], [[]], [[1, 0, 0, 19]], [[17], []]):
                for breaths in (0, 5):
                    with self.assertRaises(NoSheet) as caught:
                        parted(maker, lists, breaths)
                    self.assertIsInstance(caught.exception, ChainError)
                    self.assertEqual((caught.exception.place, caught.exception.word), wrong(maker))


class EachTime(Parted):
    def test_the_same_again(self):
        maker = own_sheet()
        lists = [[], [1, 0, 0, 19]]
        self.assertParted(maker, lists, 100, None)
        lists[1].append(4)
        self.assertParted(maker, lists, 100, None)
        maker[-1] += 1
        maker[:] = sheet_of("fun m with is fail 0")
        self.assertParted(maker, lists, 100, 1)
        self.assertParted(own_sheet(), lists, 100, None)


if __name__ == "__main__":
    unittest.main()
