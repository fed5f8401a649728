"""The own maker [27], makers' says [28], the chain [29], and that nothing handed in is changed [2]."""

import copy
import random
import unittest

from ownchain.codes import code_of, is_code
from ownchain.errors import ChainError, NoCode, NoSheet
from ownchain.machine import go
from ownchain.maker import made
from ownchain.own import breaths_for, by_machine, by_runner, chain, own_sheet, own_text, say, say_due
from ownchain.runner import run
from ownchain.sheets import functions, nodes, wrong
from ownchain.texts import read_text, show_text
from programs import SIXTY, any_number, random_programs, second_made, second_read, second_wrong, small_number

PUSH, DROP, JUMP, BACK = 0, 3, 4, 7
FAULTS = {"end": 0, "range": 1, "deep": 2, "over": 3}
NEW = 19

# Together of all kinds, with calls ahead and back.
TEXTS = (
    "fun m with is 7",
    "fun m with k j is set j k",
    "fun m with k is all 3 k 4 new",
    "fun m with k is pick 3 size 0 new k 6",
    "fun m with k is loop less k 3 set k add k 1",
    "fun m with is fail sub 2 3",
    "fun m with is quo mul 7 2 rest 9 same 2 2",
    "fun m with k is all 2 push 1 at 0 k put 1 0 5",
    "fun m with is call f 4 new fun f a b with c is same a less b c",
    "fun m with is call c fun a x y z w with u is all 3 w u call b x fun b x with is add x 1 "
    "fun c with k is call a k 1 call b k call m",
    "fun m with k is pick 2 k pick 2 1 loop k 3 fail k loop loop k pick 2 k 1 2 pick 2 k 3 4",
)


def sheet_of(text):
    return read_text(text)[1]


def sheets():
    return [sheet_of(text) for text in TEXTS] + [deepest(), sixteen()]


def deepest():
    return [1, 0, 1, 4, 2, 5, 2, 0, 3, 1, 8, 7, 18, 15, 0, -SIXTY, 18, 19, 1, 0, 19, 19, 19]


def sixteen():
    heads = [0, 0]
    for function in range(1, 16):
        heads += [function % 5, 12 - function % 3]
    bodies = [6, 15]
    for function in range(1, 16):
        bodies += [2, 9, 3, 2, 6, 5 * (function % 3), 1, 8]
    return [16] + heads + bodies


def code_due(sheet):
    heads, rows, paper = second_made(functions(sheet))
    return [len(heads)] + [number for thing in heads + rows for number in thing]


def due_of(numbers):
    found = second_wrong(numbers)
    return ("code", code_due(numbers)) if found is None else ("no",) + found


class Own(unittest.TestCase):
    @classmethod
    def setUpClass(cls):
        cls.maker = own_sheet()
        cls.code = made(cls.maker)
        cls.code_by_itself = by_machine(cls.code, cls.maker, breaths_for(cls.maker))[1]

    def assertSays(self, numbers):
        """All three, with the breaths told, say what is due; the runner's outcome is as [27] tells it."""
        before = list(numbers)
        breaths = breaths_for(numbers)
        due = due_of(numbers)
        word, number, answer = run(self.maker, numbers, breaths)
        if due[0] == "code":
            self.assertEqual((word, answer), ("done", due[1]), numbers)
        else:
            self.assertEqual((word, number), ("told", 4 * due[1] + FAULTS[due[2]]), numbers)
        self.assertEqual(say_due(numbers), due, numbers)
        self.assertEqual(by_runner(self.maker, numbers, breaths), due, numbers)
        self.assertEqual(by_machine(self.code, numbers, breaths), due, numbers)
        self.assertEqual(numbers, before)
        return due

    def assertLeast(self, numbers):
        """The least breaths with which it isn't short of them, by the runner; a breath less, and it is, by both."""
        least, enough_of_them = 0, breaths_for(numbers)
        while least < enough_of_them:
            middle = (least + enough_of_them) // 2
            if by_runner(self.maker, numbers, middle) == ("fault", "breath"):
                least = middle + 1
            else:
                enough_of_them = middle
        for breaths, due in ((least - 1, ("fault", "breath")), (least, due_of(numbers)), (least + 1, due_of(numbers))):
            self.assertEqual(by_runner(self.maker, numbers, breaths), due)
            self.assertEqual(by_machine(self.code, numbers, breaths), due)
        return least


class Text(Own):
    def test_it_is_a_text(self):
        text = own_text()
        self.assertIs(type(text), str)
        self.assertLessEqual(len(text), 12000)
        for sign in text:
            self.assertTrue(sign == "\n" or " " <= sign <= "~")

    def test_it_is_read_to_the_own_sheet(self):
        names, sheet = read_text(own_text())
        self.assertEqual(sheet, own_sheet())
        self.assertEqual(second_read(own_text()), (names, sheet))
        self.assertEqual(read_text(show_text(names, sheet)), (names, sheet))

    def test_the_sheet(self):
        sheet = own_sheet()
        self.assertIs(type(sheet), list)
        self.assertEqual({type(number) for number in sheet}, {int})
        self.assertIsNone(wrong(sheet))
        self.assertIsNone(second_wrong(sheet))
        self.assertLessEqual(len(sheet), 900)

    def test_each_time_the_same(self):
        sheet = own_sheet()
        sheet.clear()
        self.assertEqual(own_sheet(), self.maker)
        self.assertEqual(own_text(), own_text())


class Sheets(Own):
    def test_sheets(self):
        kinds = set()
        for sheet in sheets():
            self.assertEqual(self.assertSays(sheet)[0], "code")
            kinds |= {node[0] for node in nodes(sheet)}
        self.assertEqual(kinds, set(range(20)))

    def test_random_sheets(self):
        dice = random.Random(51)
        for value in (small_number, any_number):
            for sheet, told in random_programs(dice, 150, value):
                self.assertEqual(self.assertSays(sheet)[0], "code")

    def test_each_kind_at_every_depth(self):
        for deep in range(10):
            for node in (
                [0, SIXTY], [0, -SIXTY], [0, 0], [1, 0], [1, 11], [NEW], [6, 0],
            ):
                self.assertEqual(self.assertSays([1, 0, 12] + [18] * deep + node)[0], "code")
        for deep in range(9):
            for kind in range(8, 17):
                self.assertEqual(self.assertSays([1, 0, 0] + [7] * deep + [kind, 0, 4, 0, -5])[0], "code")
            for node in (
                [2, 3, NEW], [3, 1, NEW], [3, 12] + [NEW] * 12, [4, 2, NEW, 0, 4, 0, 5], [4, 12] + [NEW] * 13,
                [5, NEW, 0, 7], [7, NEW], [17, NEW, 0, 1, 0, 2], [18, 0, 0],
            ):
                self.assertEqual(self.assertSays([1, 0, 12] + [2, 1] * deep + node)[0], "code")

    def test_calls_with_each_number_of_params(self):
        for params in range(5):
            for function in range(1, 16):
                heads = [0, 0] + [params, 12] * 15
                bodies = [6, function] + [NEW] * params + [6, 0] * 15
                self.assertEqual(self.assertSays([16] + heads + bodies)[0], "code")

    def test_all_and_pick_of_each_how_many(self):
        for many in range(1, 13):
            self.assertEqual(self.assertSays([1, 0, 0, 3, many] + [0, 5] * many)[0], "code")
            if many > 1:
                self.assertEqual(self.assertSays([1, 0, 0, 4, many] + [0, 5] * (many + 1))[0], "code")

    def test_the_own_makers_own_sheet(self):
        self.assertEqual(self.assertSays(own_sheet()), ("code", made(own_sheet())))

    def test_numbers_of_a_hundred_figures_that_were_told(self):
        for number in (10 ** 100 - 1, 1 - 10 ** 100):
            self.assertEqual(self.assertSays([1, 0, 0, 0, number])[0], "code")
            self.assertEqual(self.assertSays([1, 0, 0, number]), ("no", 3, "range"))


class NoSheets(Own):
    def test_none_and_one_number(self):
        self.assertEqual(self.assertSays([]), ("no", 0, "end"))
        for number in list(range(-2, 20)) + [SIXTY, -SIXTY]:
            due = ("no", 1, "end") if 1 <= number <= 16 else ("no", 0, "range")
            self.assertEqual(self.assertSays([number]), due)

    def test_two_and_three_numbers(self):
        for first in (1, 2, 16):
            for second in range(-1, 14):
                for third in [None] + list(range(-1, 14)):
                    self.assertSays([first, second] + [third] * (third is not None))

    def test_eleven_deep(self):
        for ahead in ([18], [7], [2, 0], [8], [17], [3, 2], [4, 2], [5], [6, 1]):
            for behind in ([], [NEW], [-1], [20], [NEW] * 4):
                self.assertEqual(self.assertSays([2, 0, 1, 2, 4] + ahead * 10 + behind)[2], "deep")

    def test_eleven_deep_behind_the_first_part(self):
        for ahead in ([8, NEW], [3, 2, NEW], [4, 3, NEW, NEW], [5, NEW], [17, NEW, NEW], [6, 1, NEW]):
            self.assertEqual(self.assertSays([2, 0, 1, 2, 4] + ahead * 10)[2], "deep")

    def test_cut_at_every_place(self):
        for sheet in sheets():
            for at in range(len(sheet)):
                self.assertIn(self.assertSays(sheet[:at]), (("no", at, "end"), ("no", at, "deep")))

    def test_with_numbers_more(self):
        for sheet in sheets():
            for more in ([0], [NEW], [-1], [SIXTY], [20, 3], sheet):
                self.assertEqual(self.assertSays(sheet + more), ("no", len(sheet), "over"))

    def test_each_number_bent_alone(self):
        dice = random.Random(55)
        words = {}
        for sheet in sheets():
            for at in range(len(sheet)):
                for number in (sheet[at] - 1, sheet[at] + 1, dice.randint(0, 19), dice.choice((0, 12, 20, -SIXTY))):
                    due = self.assertSays(sheet[:at] + [number] + sheet[at + 1:])
                    words.setdefault(due[-1] if due[0] == "no" else due[0], set()).add(due[1] if due[0] == "no" else 0)
        self.assertGreater(len(words["range"]), 40)
        self.assertGreater(len(words["end"]), 10)
        self.assertGreater(len(words["over"]), 20)

    def test_the_own_makers_sheet_bent(self):
        dice = random.Random(52)
        for turn in range(40):
            bent = own_sheet()
            bent[dice.randrange(len(bent))] = dice.choice((-1, 0, 1, 3, 7, 12, 19, 20))
            self.assertSays(bent)
        for turn in range(20):
            self.assertSays(own_sheet()[:dice.randrange(667)])

    def test_random_lists(self):
        dice = random.Random(53)
        words = {}
        for turn in range(2000):
            numbers = [dice.choice((1, 1, 2, 3)), 0, dice.choice((0, 1, 12))]
            for function in range(1, numbers[0]):
                numbers += [dice.randint(0, 2), dice.choice((2, 3, 12))]
            # Of kinds with parts mostly, so that it is often too deep, and often too short.
            kinds = (2, 3, 4, 5, 6, 7, 8, 17, 18, 18, 19, 1, 0)
            numbers += [dice.choice(kinds) for number in range(dice.randint(0, 40))]
            due = self.assertSays(numbers)
            words.setdefault(due[-1] if due[0] == "no" else due[0], set()).add(due[1] if due[0] == "no" else 0)
        for word in ("end", "range", "deep", "over"):
            self.assertGreater(len(words[word]), 10, word)


def tree(ahead, many, deep):
    """A node of so many parts, each of them such a node again, so deep; at last new."""
    return ahead + tree(ahead, many, deep - 1) * many if deep else [NEW]


class Breaths(Own):
    def test_twenty_for_each_number_and_twenty(self):
        for many in (0, 1, 2, 7, 899, 900):
            told = breaths_for([5] * many)
            self.assertEqual(told, 20 * many + 20)
            self.assertIs(type(told), int)
        self.assertEqual(breaths_for([SIXTY, -SIXTY]), 60)

    def test_a_breath_too_few(self):
        for numbers in sheets() + [[], [1], [1, 0, 0], [1, 0, 0, 20], [1, 0, 0] + [18] * 11, [1, 0, 0, 19, 4]]:
            self.assertLessEqual(self.assertLeast(numbers), breaths_for(numbers))

    def long_lists(self):
        for ahead, many, deepest_sheet in (
            ([3, 12], 12, 2), ([4, 12], 13, 2), ([3, 1], 1, 9), ([4, 2], 3, 5), ([2, 0], 1, 9), ([5], 2, 8),
            ([7], 1, 9), ([8], 2, 8), ([16], 2, 8), ([17], 3, 5), ([18], 1, 9), ([6, 1], 4, 4),
            ([6, 2], 1, 9), ([6, 3], 0, 1),
        ):
            # Function 1 has four params, 2 one and 3 none.
            heads, bodies = [4, 0, 1, 4, 4, 1, 12, 0, 0], [NEW] * 3
            body = tree(ahead, many, deepest_sheet)
            yield heads + body + bodies
            yield heads + [3, 4] + body * 4 + bodies
            yield heads + [3, 12] + body * 12 + bodies
            # One deeper again: what is longer than a list may be is cut, so that it ends too early.
            yield (heads + tree(ahead, many, min(deepest_sheet + 1, 9)) + bodies)[:900]
            yield heads + ahead * 11
            yield heads + (ahead + [NEW]) * 11

    def test_the_longest_deepest_and_widest(self):
        lengths = {"code": [], "no": []}
        for numbers in self.long_lists():
            if len(numbers) <= 900:
                due = self.assertSays(numbers)
                lengths[due[0]].append(len(numbers))
        self.assertGreater(max(lengths["code"]), 800)
        self.assertEqual(max(lengths["no"]), 900)

    def test_a_breath_too_few_for_the_longest(self):
        for numbers in (tree([4, 12], 13, 3), tree([5], 2, 9)):
            numbers = ([1, 0, 0] + numbers)[:900]
            self.assertEqual(len(numbers), 900)
            self.assertLessEqual(self.assertLeast(numbers), breaths_for(numbers))

    def test_long_random_sheets(self):
        dice = random.Random(54)
        found = 0
        while found < 6:
            sheets_told = [sheet for sheet, told in random_programs(dice, 30) if len(sheet) > 200]
            for sheet in sheets_told:
                found += 1
                self.assertSays(sheet)

    def test_nine_hundred_numbers(self):
        body = [3, 12] + [3, 12] + [0, SIXTY] * 12 + tree([3, 12], 12, 2) * 5 + [NEW] * 5 + [0, 5]
        sheet = [1, 0, 0] + [3, 1] * 6 + body
        self.assertEqual(len(sheet), 900)
        self.assertEqual(self.assertSays(sheet)[0], "code")
        self.assertEqual(self.assertSays(sheet[:899]), ("no", 899, "end"))
        self.assertEqual(self.assertSays(sheet[:898] + [20, 5]), ("no", 898, "range"))
        self.assertEqual(self.assertSays(sheet[:898] + [NEW, 5]), ("no", 899, "over"))
        for numbers in ([1, 0, 0, 19] + [7] * 896, [16, 0, 0] + [0, 12] * 15 + [SIXTY] * 867, [1] * 900, [16] * 900):
            self.assertEqual(len(numbers), 900)
            self.assertSays(numbers)

    def test_rows_are_enough_wherever_the_breaths_are(self):
        lists = sheets() + [[], [5], [1, 0, 0] + [18] * 11, [1, 0, 0, 19, 4]]
        lists += [[1, 0, 0] + [4, 12, NEW] * 9, [1, 0, 0] + [5, NEW] * 9 + [NEW], [1, 0, 0, 4, 12] + [NEW] * 13]
        for numbers in lists:
            for breaths in range(self.assertLeast(numbers) + 2):
                told = by_machine(self.code, numbers, breaths)
                self.assertEqual(told, by_runner(self.maker, numbers, breaths))
                self.assertNotEqual(told, ("fault", "rows"))

    def test_rows_are_enough_for_the_own_makers_sheet(self):
        least = self.assertLeast(own_sheet())
        for breaths in range(0, least, 97):
            self.assertEqual(by_machine(self.code, own_sheet(), breaths), ("fault", "breath"))


class Says(unittest.TestCase):
    def assertSaid(self, outcome, due):
        before = copy.deepcopy(outcome)
        told = say(outcome)
        self.assertIs(type(told), tuple)
        self.assertEqual(told, due)
        self.assertEqual(outcome, before)

    def test_done(self):
        for number in (0, 1, -1, SIXTY):
            for answer in ([], [0], [1, 0, 0, 0], [-1, SIXTY]):
                self.assertSaid(("done", number, answer), ("code", answer))

    def test_told(self):
        for place in (0, 1, 2, 7, 899, 900, 10 ** 50):
            for word, number in FAULTS.items():
                for answer in ([], [1, 2]):
                    self.assertSaid(("told", 4 * place + number, answer), ("no", place, word))

    def test_told_below_0(self):
        for number in (-1, -2, -3, -4, -5, -SIXTY):
            self.assertSaid(("told", number, [1]), ("fault", "told"))

    def test_other_faults(self):
        for word in ("zero", "great", "row", "place", "deep", "breath", "stray", "rows"):
            for answer in ([], [5]):
                self.assertSaid((word, 0, answer), ("fault", word))

    def test_the_answer_is_the_askers_own(self):
        outcome = ("done", 0, [1, 2])
        told = say(outcome)
        told[1].append(3)
        self.assertEqual(outcome, ("done", 0, [1, 2]))
        outcome[2].clear()
        self.assertEqual(told, ("code", [1, 2, 3]))


class OtherMakers(unittest.TestCase):
    def assertBoth(self, text, numbers, breaths, due):
        maker = sheet_of(text)
        code = made(maker)
        before = (list(maker), list(code), list(numbers))
        for told in (by_runner(maker, numbers, breaths), by_machine(code, numbers, breaths)):
            self.assertIs(type(told), tuple)
            self.assertEqual(told, due, text)
        self.assertEqual((maker, code, numbers), before)

    def test_codes(self):
        self.assertBoth("fun m with is 7", [3], 5, ("code", []))
        self.assertBoth("fun m with is all 2 push 1 4 push 1 at 0 1", [3, SIXTY], 5, ("code", [4, SIXTY]))
        self.assertBoth("fun m with is push 0 5", [3], 5, ("code", []))

    def test_noes(self):
        self.assertBoth("fun m with is fail 0", [], 5, ("no", 0, "end"))
        self.assertBoth("fun m with is all 2 push 1 4 fail 9", [], 5, ("no", 2, "range"))
        self.assertBoth("fun m with is fail at 0 1", [3, 4 * SIXTY + 2], 5, ("no", SIXTY, "deep"))
        self.assertBoth("fun m with is fail size 0", [3, 3, 3], 5, ("no", 0, "over"))

    def test_faults(self):
        self.assertBoth("fun m with is fail -1", [], 5, ("fault", "told"))
        self.assertBoth("fun m with is fail -4", [], 5, ("fault", "told"))
        self.assertBoth("fun m with is quo 1 0", [], 5, ("fault", "zero"))
        self.assertBoth("fun m with is mul mul at 0 0 at 0 0 1", [SIXTY], 5, ("fault", "great"))
        self.assertBoth("fun m with is at 2 0", [], 5, ("fault", "row"))
        self.assertBoth("fun m with is at 0 0", [], 5, ("fault", "place"))
        self.assertBoth("fun m with is call m", [], 17, ("fault", "deep"))
        self.assertBoth("fun m with is call m", [], 15, ("fault", "breath"))
        self.assertBoth("fun m with is loop 1 2", [], 500, ("fault", "breath"))
        self.assertBoth("fun m with is 7", [], 0, ("fault", "breath"))

    def test_stray(self):
        self.assertEqual(by_machine([1, 0, 0, 0, BACK, 0], [], 5), ("fault", "stray"))
        self.assertEqual(by_machine([1, 0, 0, 0, PUSH, 0], [], 5), ("fault", "stray"))

    def test_four_hundred_rows_for_each_breath_and_four_hundred(self):
        for breaths in (1, 2, 3, 10):
            most = 400 * breaths + 400
            for many, due in ((most - 2, ("code", [])), (most, ("code", [])), (most + 2, ("fault", "rows"))):
                rows = [(PUSH, 1), (DROP, 0)] * (many // 2 - 1) + [(PUSH, 3), (BACK, 0)]
                self.assertEqual(by_machine(code_of([(0, 0, 0)], rows), [], breaths), due)
            rows = [(PUSH, 1)] * most + [(BACK, 0)]
            self.assertEqual(by_machine(code_of([(0, 0, 0)], rows), [], breaths), ("fault", "rows"))
            self.assertEqual(by_machine(code_of([(0, 0, 0)], rows[1:]), [], breaths), ("code", []))
        ring = code_of([(0, 0, 0)], [(JUMP, 0)])
        self.assertEqual(by_machine(ring, [], 3), ("fault", "rows"))
        self.assertEqual(by_machine(ring, [], 0), ("fault", "breath"))

    def test_refused(self):
        for maker in ([], [1, 0, 0], [1, 0, 0, 20], [1, 0, 0, 19, 19]):
            with self.assertRaises(NoSheet) as caught:
                by_runner(maker, [1], 5)
            self.assertIsInstance(caught.exception, ChainError)
            self.assertEqual((caught.exception.place, caught.exception.word), wrong(maker))
        for code in ([], [1, 0, 0, 0], [1, 0, 0, 0, 12, 0], None, "code"):
            with self.assertRaises(NoCode):
                by_machine(code, [1], 5)


class Chains(Own):
    def assertChain(self, numbers):
        before = list(numbers)
        told = chain(numbers)
        self.assertIs(type(told), tuple)
        self.assertEqual(told, (due_of(numbers),) * 3)
        self.assertEqual(say_due(numbers), due_of(numbers))
        self.assertIs(type(say_due(numbers)), tuple)
        self.assertEqual(numbers, before)

    def test_sheets(self):
        for sheet in sheets():
            self.assertChain(sheet)

    def test_lists_that_are_none(self):
        for numbers in ([], [0], [1], [17], [SIXTY], [1, 0, 0], [1, 0, 0, 20], [1, 0, 0, 19, 1], [1, 0, 0, 1, 0]):
            self.assertChain(numbers)
        for numbers in ([1, 0, 0] + [18] * 10, [1, 0, 0] + [18] * 11, [2, 0, 0, 5], [1, 1, 1, 19], [1, 0, 13]):
            self.assertChain(numbers)
        self.assertChain(own_sheet()[:-1])
        self.assertChain(own_sheet() + [0])

    def test_the_own_makers_own_sheet(self):
        self.assertChain(own_sheet())
        code = made(own_sheet())
        self.assertIs(is_code(code), True)
        self.assertEqual(chain(own_sheet()), (("code", code),) * 3)
        self.assertEqual(go(code, own_sheet(), breaths_for(own_sheet()), 10 ** 7)[2], code)

    def test_code_that_the_code_made_of_itself_makes_that_code(self):
        self.assertEqual(self.code_by_itself, self.code)
        told = by_machine(self.code_by_itself, own_sheet(), breaths_for(own_sheet()))
        self.assertEqual(told, ("code", self.code))

    def test_says_due(self):
        self.assertEqual(say_due([1, 0, 0, 0, 7]), ("code", [1, 0, 0, 0, 0, 7, 7, 0]))
        self.assertEqual(say_due([1, 0, 0, 0]), ("no", 4, "end"))
        self.assertEqual(say_due([17]), ("no", 0, "range"))
        self.assertEqual(say_due([1, 0, 0] + [7] * 10), ("no", 13, "deep"))
        self.assertEqual(say_due([1, 0, 0, 19, 5]), ("no", 4, "over"))

    def test_each_say_is_the_askers_own(self):
        sheet = sheet_of(TEXTS[3])
        due = ("code", code_due(sheet))
        told = chain(sheet)
        told[0][1].append(5)
        self.assertEqual(told[1:], (due, due))
        told[1][1].clear()
        self.assertEqual(told[2], due)
        due_now = say_due(sheet)
        due_now[1][0] = 99
        sheet.append(4)
        self.assertEqual(told[2], due)
        self.assertEqual(chain(sheet), (("no", len(sheet) - 1, "over"),) * 3)
        sheet.pop()
        self.assertEqual(chain(sheet), (due,) * 3)
        self.assertEqual(say_due(sheet), due)


if __name__ == "__main__":
    unittest.main()
