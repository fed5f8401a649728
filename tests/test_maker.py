"""The maker [21, 22]: rows written out, its paper, runs on the machine, and that nothing handed in is changed [2]."""

import random
import unittest

from ownchain.codes import heads_of, is_code, rows_of
from ownchain.codetexts import show_code
from ownchain.errors import ChainError, NoSheet
from ownchain.machine import go
from ownchain.maker import made, made_paper
from ownchain.papers import enough, lets_by
from ownchain.runner import run
from ownchain.sheets import nodes, wrong
from ownchain.texts import read_text
from programs import SIXTY, WORDS, any_number, random_programs, second_made, small_number


def sheet_of(text):
    return read_text(text)[1]


class Making(unittest.TestCase):
    def assertMade(self, text, heads, rows):
        """Heads as (start, params, boxes); rows as a text, parted by commas, of all functions."""
        sheet = sheet_of(text)
        before = list(sheet)
        code = made(sheet)
        self.assertIs(type(code), list)
        self.assertIs(is_code(code), True)
        self.assertEqual(heads_of(code), heads, text)
        self.assertEqual(", ".join(show_code(code).split("\n")[len(heads):]), rows, text)
        self.assertEqual(sheet, before)

    def assertBody(self, body, rows):
        """Of a body by itself; what is behind it is back."""
        self.assertMade(f"fun m with k j is {body}", [(0, 0, 2)], f"{rows}, back")

    def assertPaper(self, text, paper):
        sheet = sheet_of(text)
        before = list(sheet)
        told = made_paper(sheet)
        self.assertIs(type(told), list)
        for line in told:
            self.assertIs(type(line), tuple)
            self.assertEqual([type(number) for number in line], [int] * 3)
        self.assertEqual(told, paper, text)
        self.assertEqual(sheet, before)
        self.assertEqual([line[0] for line in told], [node[1] for node in nodes(sheet)])


class Rows(Making):
    def test_number(self):
        for number in (0, 1, -1, SIXTY, -SIXTY):
            self.assertBody(f"{number}", f"push {number}")

    def test_get_and_set(self):
        self.assertBody("k", "get 0")
        self.assertBody("j", "get 1")
        self.assertBody("set j 4", "push 4, set 1")
        self.assertBody("set k set j k", "get 0, set 1, set 0")
        boxes = "a b c d e f g h i j k l"
        self.assertMade(f"fun m with {boxes} is set l l", [(0, 0, 12)], "get 11, set 11, back")

    def test_all(self):
        self.assertBody("all 1 4", "push 4")
        self.assertBody("all 2 4 5", "push 4, drop, push 5")
        self.assertBody("all 3 4 k new", "push 4, drop, get 0, drop, new")
        many = " ".join(str(number) for number in range(12))
        self.assertBody(f"all 12 {many}", ", drop, ".join(f"push {number}" for number in range(12)))
        self.assertBody("all 2 all 2 1 2 all 2 3 4", "push 1, drop, push 2, drop, push 3, drop, push 4")

    def test_pick(self):
        self.assertBody("pick 2 k 4 5", "get 0, pick 2, jump 5, jump 7, jump 8, push 4, jump 4, push 5")
        self.assertBody(
            "pick 3 7 4 5 6",
            "push 7, pick 3, jump 6, jump 8, jump 10, jump 11, push 4, jump 5, push 5, jump 5, push 6")
        self.assertBody(
            "pick 2 add k 1 sub 2 3 set j 4",
            "get 0, push 1, add, pick 2, jump 7, jump 11, jump 13, push 2, push 3, sub, jump 6, push 4, set 1")

    def test_a_pick_from_twelve(self):
        parts = " ".join(str(100 + number) for number in range(12))
        rows = ["push 0", "pick 12"] + [f"jump {15 + 2 * number}" for number in range(12)] + ["jump 38"]
        rows += ", jump 14, ".join(f"push {100 + number}" for number in range(12)).split(", ")
        self.assertBody(f"pick 12 0 {parts}", ", ".join(rows))

    def test_a_pick_in_a_pick(self):
        # Rows 0 to 4: get, pick, its jumps, jump z; 5 to 12 the inner one; 13 back to jump z; 14 the other part.
        self.assertBody(
            "pick 2 k pick 2 j 1 2 3",
            "get 0, pick 2, jump 5, jump 14, jump 15, "
            "get 1, pick 2, jump 10, jump 12, jump 13, push 1, jump 9, push 2, "
            "jump 4, push 3")
        self.assertBody(
            "pick 2 pick 2 k 1 2 3 4",
            "get 0, pick 2, jump 5, jump 7, jump 8, push 1, jump 4, push 2, "
            "pick 2, jump 12, jump 14, jump 15, push 3, jump 11, push 4")
        self.assertBody(
            "pick 2 k 1 pick 2 j 2 3",
            "get 0, pick 2, jump 5, jump 7, jump 15, push 1, jump 4, "
            "get 1, pick 2, jump 12, jump 14, jump 15, push 2, jump 11, push 3")

    def test_loop(self):
        self.assertBody("loop k 4", "breath, get 0, unless 6, push 4, drop, jump 0, push 0")
        self.assertBody(
            "all 2 9 loop less k 3 set k add k 1",
            "push 9, drop, breath, get 0, push 3, less, unless 13, get 0, push 1, add, set 0, drop, jump 2, push 0")

    def test_a_loop_in_a_loop(self):
        self.assertBody(
            "loop k loop j 4",
            "breath, get 0, unless 12, breath, get 1, unless 9, push 4, drop, jump 3, push 0, drop, jump 0, push 0")
        self.assertBody(
            "loop loop k j 4",
            "breath, breath, get 0, unless 7, get 1, drop, jump 1, push 0, unless 12, push 4, drop, jump 0, push 0")

    def test_call(self):
        self.assertMade("fun m with is call m", [(0, 0, 0)], "call 0, back")
        self.assertMade(
            "fun m with is call f 1 2 fun f a b with c is a", [(0, 0, 0), (4, 2, 3)],
            "push 1, push 2, call 1, back, get 0, back")
        self.assertMade(
            "fun m with is call f 1 2 3 call g fun f a b c d with is d fun g with is call f 5 6 7 8",
            [(0, 0, 0), (6, 4, 4), (8, 0, 0)],
            "push 1, push 2, push 3, call 2, call 1, back, get 3, back, push 5, push 6, push 7, push 8, call 1, back")

    def test_fail(self):
        self.assertBody("fail 4", "push 4, fail")
        self.assertBody("fail fail k", "get 0, fail, fail")

    def test_deeds(self):
        for kind in range(8, 20):
            many = {17: 3, 18: 1, 19: 0}.get(kind, 2)
            parts = [str(number) for number in range(4, 4 + many)]
            rows = [f"push {part}" for part in parts] + [WORDS[kind]]
            self.assertBody(" ".join([WORDS[kind]] + parts), ", ".join(rows))
        self.assertBody("add sub 1 2 mul 3 4", "push 1, push 2, sub, push 3, push 4, mul, add")
        self.assertBody("put new size k at 1 2", "new, get 0, size, push 1, push 2, at, put")

    def test_what_is_fixed_is_not_reckoned(self):
        self.assertBody("add 1 2", "push 1, push 2, add")
        self.assertBody("pick 2 0 1 2", "push 0, pick 2, jump 5, jump 7, jump 8, push 1, jump 4, push 2")

    def test_each_kind_within_each(self):
        rows_of_kind = {
            "5": 1, "k": 1, "set k 5": 2, "all 2 5 6": 3, "pick 2 5 6 7": 8, "loop 5 6": 7, "call m": 1, "fail 5": 2,
            "size 5": 2, "new": 1, "put 5 6 7": 4, "add 5 6": 3,
        }
        around = {
            "set k {}": 1, "all 2 {} 1": 2, "all 2 1 {}": 2, "pick 2 {} 1 2": 7, "pick 2 1 {} 2": 7, "pick 2 1 2 {}": 7,
            "loop {} 1": 6, "loop 1 {}": 6, "fail {}": 1, "sub {} 1": 2, "sub 1 {}": 2, "size {}": 1, "put 1 {} 2": 3,
        }
        for body, many in rows_of_kind.items():
            for form, more in around.items():
                code = made(sheet_of("fun m with k is " + form.format(body)))
                self.assertEqual(len(rows_of(code)), many + more + 1, form.format(body))

    def test_functions_stand_in_order(self):
        text = "fun a with is loop 1 2 fun b x with y is pick 2 x 1 y fun c with is 7 fun d p q r s with t is fail t"
        self.assertMade(
            text, [(0, 0, 0), (8, 1, 2), (17, 0, 0), (19, 4, 5)],
            "breath, push 1, unless 6, push 2, drop, jump 0, push 0, back, "
            "get 0, pick 2, jump 13, jump 15, jump 16, push 1, jump 12, get 1, back, "
            "push 7, back, get 4, fail, back")

    def test_sixteen_functions(self):
        text = " ".join(f"fun {name} with is {number}" for number, name in enumerate("abcdefghijklmnop"))
        heads = [(2 * number, 0, 0) for number in range(16)]
        self.assertMade(text, heads, ", ".join(f"push {number}, back" for number in range(16)))

    def test_ten_deep(self):
        self.assertBody("size " * 9 + "new", "new" + ", size" * 9)


class Papers(Making):
    def test_one_node(self):
        self.assertPaper("fun m with is 7", [(3, 0, 1)])
        self.assertPaper("fun m with is new", [(3, 0, 1)])

    def test_set_and_all(self):
        self.assertPaper("fun m with k is all 2 set k 4 k", [(3, 0, 4), (5, 0, 2), (7, 0, 1), (9, 3, 4)])

    def test_pick(self):
        # Rows: 0 get, 1 pick, 2 to 4 jumps, 5 push, 6 jump, 7 push.
        self.assertPaper("fun m with k is pick 2 k 4 5", [(3, 0, 8), (5, 0, 1), (7, 5, 6), (9, 7, 8)])

    def test_loop(self):
        # Rows: 0 breath, 1 get, 2 unless, 3 push, 4 drop, 5 jump, 6 push.
        self.assertPaper("fun m with k is loop k 4", [(3, 0, 7), (4, 1, 2), (6, 3, 4)])

    def test_call_and_fail(self):
        text = "fun m with is call f 1 fail 2 fun f a b with is sub a b"
        self.assertPaper(
            text, [(5, 0, 4), (7, 0, 1), (9, 1, 3), (10, 1, 2), (12, 5, 8), (13, 5, 6), (15, 6, 7)])

    def test_deeds(self):
        self.assertPaper("fun m with is put 1 2 size new", [(3, 0, 5), (4, 0, 1), (6, 1, 2), (8, 2, 4), (9, 2, 3)])


class NoSheets(Making):
    def test_refused_with_the_place_and_word(self):
        lists = [[], [0], [17], [1, 1, 1, 19], [1, 0, 0, 20], [1, 0, 0, 19, 19], [1, 0, 0, 8, 19], [1, 0, 0, 1, 0]]
        lists += [[1, 0, 0] + [18] * 10, [1, 0, 0] + [18] * 11, [2, 0, 0, 0, 0, 19], [1, 0, 0, 4, 1, 19, 19]]
        for numbers in lists:
            self.assertIsNotNone(wrong(numbers))
            for asked in (made, made_paper):
                before = list(numbers)
                with self.assertRaises(NoSheet) as caught:
                    asked(numbers)
                self.assertIsInstance(caught.exception, ChainError)
                self.assertEqual((caught.exception.place, caught.exception.word), wrong(numbers))
                self.assertEqual(numbers, before)

    def test_each_word(self):
        for numbers, place, word in (([1, 0], 2, "end"), ([1, 0, 0, 6, 1], 4, "range"), ([1, 0, 0, 19, 0], 4, "over"),
                                     ([1, 0, 0] + [18] * 10, 13, "deep")):
            for asked in (made, made_paper):
                with self.assertRaises(NoSheet) as caught:
                    asked(numbers)
                self.assertEqual((caught.exception.place, caught.exception.word), (place, word))


class SecondMaker(Making):
    """Random sheets, held against a maker that was written another way, and against the plain runner."""

    def test_random_sheets(self):
        dice = random.Random(21)
        for value in (any_number, small_number):
            for sheet, told in random_programs(dice, 300, value):
                before = list(sheet)
                heads, rows, paper = second_made(told)
                code = made(sheet)
                self.assertIs(is_code(code), True)
                self.assertEqual((heads_of(code), rows_of(code)), (heads, rows))
                self.assertEqual(made_paper(sheet), paper)
                self.assertEqual(sheet, before)

    def test_the_machine_does_what_the_runner_does(self):
        dice = random.Random(22)
        words = {}
        for sheet, functions in random_programs(dice, 500, small_number):
            code = made(sheet)
            given = [small_number(dice) for place in range(dice.randrange(5))]
            for breaths in list(range(7)) + [12, 60]:
                outcome = run(sheet, given, breaths)
                told = go(code, given, breaths, enough(sheet, code, breaths))
                self.assertEqual(told, outcome, (sheet, given, breaths))
                words[outcome[0]] = True
        words.pop("great", None)
        self.assertEqual(sorted(words), ["breath", "deep", "done", "place", "row", "told", "zero"])

    def test_programs_of_many_breaths(self):
        texts = [
            "fun m with k is all 2 loop less k size 0 all 2 push 1 call f at 0 k set k add k 1 k "
            "fun f n with is pick 3 n 100 200 mul n n",
            "fun m with k is loop 1 set k call f k 1 fun f a b with is add a b",
            "fun m with is call f size 0 fun f n with is pick 2 less 0 n 0 all 2 push 1 n call f sub n 1",
            "fun m with j k is loop less j 9 all 3 set k 0 loop less k j all 2 push 1 mul j k set k add k 1 "
            "set j add j 1",
        ]
        for text in texts:
            sheet = sheet_of(text)
            code = made(sheet)
            for given in ([], [0, 1, 2, 3, -1], list(range(14)), list(range(20))):
                for breaths in list(range(40)) + [100, 3000, 20000]:
                    outcome = run(sheet, given, breaths)
                    self.assertEqual(go(code, given, breaths, enough(sheet, code, breaths)), outcome)

    def test_the_made_codes_paper_is_let_by(self):
        for sheet, told in random_programs(random.Random(23), 300):
            self.assertIs(lets_by(sheet, made(sheet), made_paper(sheet)), True)

    def test_a_long_sheet(self):
        body = "all 12 " + " ".join(["all 12 " + " ".join(["add k size 7"] * 12)] * 12)
        sheet = sheet_of(f"fun m with k is {body}")
        self.assertGreater(len(sheet), 800)
        code = made(sheet)
        self.assertEqual(len(rows_of(code)), 144 * 4 + 143 + 1)
        self.assertIs(lets_by(sheet, code, made_paper(sheet)), True)


class NothingChanged(Making):
    def test_what_was_told_is_the_askers_own(self):
        sheet = sheet_of("fun m with k is loop less k 3 set k add k 1")
        for asked in (made, made_paper):
            first, kept = asked(sheet), asked(sheet)
            before = list(kept)
            first.reverse()
            first.clear()
            self.assertEqual(kept, before)
            self.assertEqual(asked(sheet), before)

    def test_what_is_handed_in_and_changed_later(self):
        sheet = sheet_of("fun m with is 4")
        code, paper = made(sheet), made_paper(sheet)
        sheet[4] = 5
        self.assertEqual(code, [1, 0, 0, 0, 0, 4, 7, 0])
        self.assertEqual(made(sheet), [1, 0, 0, 0, 0, 5, 7, 0])
        sheet.clear()
        self.assertEqual((code, paper), ([1, 0, 0, 0, 0, 4, 7, 0], [(3, 0, 1)]))


if __name__ == "__main__":
    unittest.main()
