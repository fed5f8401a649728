"""The machine [19, 20], and that nothing handed in is changed [2]."""

import random
import unittest

from ownchain.codes import code_of, is_code
from ownchain.codetexts import read_code
from ownchain.errors import ChainError, NoCode
from ownchain.machine import go
from programs import SIXTY, second_go, small_number

PLENTY = 20000
MANY = 100000
HUNDRED = 10 ** 100 - 1

# What is taken off the values by each row, and what else the row needs to be there.
DEED_PARTS = {
    "add": 2, "sub": 2, "mul": 2, "quo": 2, "rest": 2, "less": 2, "same": 2, "push": 2, "at": 2, "put": 3, "size": 1,
    "new": 0,
}


def code(text, boxes=2, others=()):
    """The code of rows parted by commas: function 0 starts at row 0, the others as told by (start, params, boxes)."""
    heads = [f"fun 0 0 {boxes}"] + [f"fun {start} {params} {many}" for start, params, many in others]
    return read_code("\n".join(heads + text.split(", ")))


class Going(unittest.TestCase):
    def assertGoes(self, numbers, outcome, given=(), breaths=PLENTY, most=MANY):
        before, handed = list(numbers), list(given)
        told = go(numbers, handed, breaths, most)
        self.assertEqual(told, outcome, numbers)
        self.assertIs(type(told), tuple)
        self.assertEqual([type(thing) for thing in told], [str, int, list], numbers)
        self.assertEqual((numbers, handed), (before, list(given)))

    def assertDone(self, text, value, answer=(), given=(), boxes=2):
        self.assertGoes(code(text, boxes), ("done", value, list(answer)), given)

    def assertFault(self, text, word, answer=(), given=(), boxes=2, breaths=PLENTY, most=MANY):
        self.assertGoes(code(text, boxes), (word, 0, list(answer)), given, breaths, most)


class Ops(Going):
    def test_push_and_back(self):
        for number in (0, 1, -1, SIXTY, -SIXTY, HUNDRED, -HUNDRED):
            self.assertDone(f"push {number}, back", number)

    def test_back_with_more_than_one_value(self):
        self.assertDone("push 1, push 2, push 3, back", 3)
        self.assertDone("push 1, push 2, drop, back", 1)

    def test_boxes_hold_0_at_first(self):
        self.assertDone("get 0, back", 0)
        self.assertDone("get 11, back", 0, boxes=12)

    def test_get_and_set(self):
        self.assertDone("push 5, set 1, drop, get 1, back", 5)
        self.assertDone("push 5, set 1, drop, get 0, back", 0)
        self.assertDone("push 5, set 11, push 6, set 0, drop, drop, get 11, back", 5, boxes=12)

    def test_the_value_stays_where_it_is_set(self):
        self.assertDone("push 5, set 1, back", 5)
        self.assertDone("push 5, set 1, get 1, add, back", 10)

    def test_a_box_is_read_when_its_turn_comes(self):
        self.assertDone("get 0, push 7, set 0, sub, back", -7)

    def test_drop(self):
        self.assertDone("push 1, push 2, drop, push 3, add, back", 4)

    def test_jump(self):
        self.assertDone("jump 2, fail, push 4, back", 4)
        self.assertDone("jump 3, push 4, back, jump 1", 4)
        self.assertDone("push 8, jump 3, fail, jump 5, fail, back", 8)

    def test_unless(self):
        for value, due in ((0, 6), (1, 5), (-1, 5), (2, 5), (SIXTY, 5), (-SIXTY, 5)):
            self.assertDone(f"push {value}, unless 4, push 5, back, push 6, back", due)

    def test_unless_takes_the_value_off(self):
        self.assertDone("push 9, push 0, unless 3, back", 9)
        self.assertDone("push 9, push 1, unless 3, back", 9)
        self.assertFault("push 1, unless 0, back", "stray")

    def test_unless_back(self):
        # Box 0 goes from 0 to 3: then 1 less it below 3 is 0 no longer.
        text = "get 0, push 1, add, set 0, push 3, less, push 0, same, unless 0, get 0, back"
        self.assertDone(text, 3)

    def test_pick(self):
        for many in range(2, 13):
            jumps = ", ".join(f"jump {2 + many + 2 * number}" for number in range(many))
            ends = ", ".join(f"push {100 + number}, back" for number in range(many))
            for value in range(many):
                self.assertDone(f"push {value}, pick {many}, {jumps}, {ends}", 100 + value)
            for value in (many, many + 1, -1, -2, -many, SIXTY, -SIXTY, HUNDRED, -HUNDRED):
                self.assertDone(f"push {value}, pick {many}, {jumps}, {ends}", 100 + many - 1)

    def test_pick_into_rows_that_are_no_jumps(self):
        for value, due in ((0, 7), (1, 8), (2, 9), (3, 9), (-1, 9)):
            self.assertDone(f"push 7, push 8, push 9, push {value}, pick 3, drop, drop, back", due)
        for value, word in ((0, "done"), (1, "stray"), (2, "done")):
            told = go(code(f"push 40, push {value}, pick 3, push 1, add, push 2, back"), [], 1, 99)
            self.assertEqual(told[0], word)

    def test_pick_takes_the_value_off(self):
        self.assertDone("push 6, push 1, pick 2, fail, back", 6)
        self.assertFault("push 1, pick 2, fail, back", "stray")

    def test_fail(self):
        for number in (0, 1, -1, SIXTY, -SIXTY):
            self.assertGoes(code(f"push 1, push {number}, fail, back"), ("told", number, []))
        text = "push 1, push 4, push, fail, push 1, push 5, push, back"
        self.assertGoes(code(text), ("told", 4, [4]))

    def test_breath(self):
        self.assertGoes(code("breath, push 3, back"), ("done", 3, []), (), 2)
        self.assertGoes(code("breath, push 3, back"), ("breath", 0, []), (), 1)
        self.assertGoes(code("breath, breath, push 3, back"), ("breath", 0, []), (), 2)
        self.assertGoes(code("push 1, push 4, push, breath, push 3, back"), ("breath", 0, [4]), (), 1)

    def test_a_breath_puts_and_takes_no_value(self):
        self.assertDone("push 3, breath, back", 3)
        self.assertFault("breath, back", "stray")


class Deeds(Going):
    def test_values_in_order(self):
        for word, value in (("add", 9), ("sub", 5), ("mul", 14), ("quo", 3), ("rest", 1), ("less", 0), ("same", 0)):
            self.assertDone(f"push 99, push 7, push 2, {word}, back", value)
        for word, value in (("add", 9), ("sub", -5), ("mul", 14), ("quo", 0), ("rest", 2), ("less", 1), ("same", 0)):
            self.assertDone(f"push 99, push 2, push 7, {word}, back", value)
        self.assertDone("push 7, push 7, same, back", 1)

    def test_below_0(self):
        self.assertDone("push -7, push 2, quo, back", -4)
        self.assertDone("push -7, push 2, rest, back", 1)
        self.assertDone("push 7, push -2, quo, back", -4)
        self.assertDone("push 7, push -2, rest, back", -1)

    def test_deeds_take_their_values_off(self):
        self.assertDone("push 50, push 7, push 2, add, drop, back", 50)
        self.assertDone("push 50, push 1, push 2, push, drop, back", 50, [2])
        self.assertDone("push 50, push 0, push 0, at, drop, back", 50, [], [4])
        self.assertDone("push 50, push 0, push 0, push 6, put, drop, back", 50, [], [4])
        self.assertDone("push 50, push 0, size, drop, back", 50, [], [4])
        self.assertDone("push 50, new, drop, back", 50)

    def test_rows(self):
        self.assertDone("push 1, push 5, push, back", 5, [5])
        self.assertDone("push 0, push 2, at, back", 8, [], [6, 7, 8])
        self.assertDone("push 1, push 4, push, drop, push 1, push 0, push 9, put, back", 9, [9])
        self.assertDone("push 0, size, back", 3, [], [6, 7, 8])
        self.assertDone("push 1, size, back", 0, [], [6, 7, 8])
        self.assertDone("new, back", 2)
        self.assertDone("new, drop, new, back", 3)
        self.assertDone("new, push 7, push, drop, push 2, push 0, at, back", 7)

    def test_row_0_is_a_copy(self):
        given = [1, 2]
        numbers = code("push 0, push 3, push, drop, push 0, push 0, push 9, put, drop, push 0, size, back")
        self.assertGoes(numbers, ("done", 3, []), given)
        self.assertEqual(given, [1, 2])

    def test_zero(self):
        for word in ("quo", "rest"):
            self.assertFault(f"push 1, push 4, push, push 0, {word}, back", "zero", [4])

    def test_great(self):
        for text in (f"push {HUNDRED}, push 1, add", f"push {-HUNDRED}, push 1, sub", f"push {HUNDRED}, push 2, mul",
                     f"push {HUNDRED}, push -2, mul", f"push {-HUNDRED}, push -1, add"):
            self.assertFault(f"push 1, push 4, push, drop, {text}, back", "great", [4])
        self.assertDone(f"push {HUNDRED}, push -1, mul, back", -HUNDRED)
        self.assertDone(f"push {HUNDRED - 1}, push 1, add, back", HUNDRED)

    def test_row(self):
        for number in (-1, 2, SIXTY, -SIXTY):
            for text in (f"push {number}, push 0, push", f"push {number}, push 0, at",
                         f"push {number}, push 0, push 0, put", f"push {number}, size"):
                self.assertFault(f"push 1, push 4, push, {text}, back", "row", [4], [7])

    def test_place(self):
        for row in (0, 1):
            for place in (-1, 1, SIXTY, -SIXTY):
                for text in (f"push {row}, push {place}, at", f"push {row}, push {place}, push 0, put"):
                    self.assertFault(f"push 1, push 4, push, {text}, back", "place", [4], [7])
        self.assertFault("push 2, push -1, at, back", "row")


class Calls(Going):
    def test_params_in_order(self):
        # Function 1: 1000 a + 100 b + 10 c + d, by its four params and a fifth box that is 0.
        own = "push 1000, get 0, mul, push 100, get 1, mul, add, push 10, get 2, mul, add, get 3, add, get 4, add, back"
        numbers = code(f"push 9, push 1, push 2, push 3, push 4, call 1, back, {own}", 0, [(7, 4, 5)])
        self.assertGoes(numbers, ("done", 1234, []))

    def test_each_number_of_params(self):
        for params in range(5):
            pushes = ", ".join(f"push {number}" for number in range(5))
            text = f"{pushes}, call 1, drop, back, push 77, back"
            # What was put last and not taken off is what is left then.
            self.assertGoes(code(text, 0, [(8, params, 12)]), ("done", 4 - params, []))

    def test_the_last_value_is_the_last_param(self):
        text = "push 5, push 6, push 7, call 1, back, get {}, back"
        for box, value in ((0, 6), (1, 7), (2, 0)):
            self.assertGoes(code(text.format(box), 0, [(5, 2, 3)]), ("done", value, []))

    def test_the_value_is_put_on_the_callers_values(self):
        self.assertGoes(code("push 20, call 1, sub, back, push 3, back", 0, [(4, 0, 0)]), ("done", 17, []))
        self.assertGoes(code("push 20, push 4, call 1, sub, back, get 0, get 0, mul, back", 0, [(5, 1, 1)]),
                        ("done", 4, []))

    def test_boxes_are_0_anew_at_each_call(self):
        # Function 1 puts box 0 into the answer, and then sets it.
        own = "push 1, get 0, push, drop, push 5, set 0, back"
        numbers = code(f"call 1, drop, call 1, drop, call 1, back, {own}", 0, [(6, 0, 1)])
        self.assertGoes(numbers, ("done", 5, [0, 0, 0]))

    def test_boxes_are_each_functions_own(self):
        numbers = code("push 4, set 0, call 1, drop, get 0, back, push 9, set 0, back", 1, [(6, 0, 1)])
        self.assertGoes(numbers, ("done", 4, []))
        numbers = code("push 4, set 0, call 1, drop, get 0, back, push 9, set 0, back", 1, [(6, 1, 1)])
        self.assertGoes(numbers, ("done", 4, []))

    def test_values_of_a_function_that_is_done_are_gone_with_it(self):
        numbers = code("push 1, call 1, drop, back, push 7, push 8, push 9, back", 0, [(4, 0, 0)])
        self.assertGoes(numbers, ("done", 1, []))
        numbers = code("call 1, drop, back, push 7, push 8, push 9, back", 0, [(3, 0, 0)])
        self.assertGoes(numbers, ("stray", 0, []))

    def test_the_callers_values_are_not_the_functions(self):
        for row in ("drop", "back", "set 0", "unless 0", "pick 2", "fail", "add", "size"):
            numbers = code(f"push 1, push 2, push 3, call 1, back, {row}, back", 0, [(5, 0, 1)])
            self.assertGoes(numbers, ("stray", 0, []))

    def test_rows_are_all_functions(self):
        numbers = code("new, call 1, push 0, at, back, get 0, push 6, push, drop, get 0, back", 0, [(5, 1, 1)])
        self.assertGoes(numbers, ("done", 6, []))

    def test_a_start_anywhere(self):
        self.assertGoes(read_code("fun 2 0 0\npush 1\nback\npush 2\nback"), ("done", 2, []))
        self.assertGoes(read_code("fun 3 0 0\npush 1\nback\nfail\nback"), ("stray", 0, []))
        self.assertGoes(read_code("fun 1 0 0\nfun 0 0 0\npush 1\ncall 1\nback"), ("deep", 0, []))

    def test_functions_may_share_rows(self):
        # Function 1 begins at the begin of function 0's last two rows.
        numbers = code("call 1, push 1, add, jump 4, push 5, back", 0, [(4, 0, 0)])
        self.assertGoes(numbers, ("done", 5, []))

    def test_a_call_of_function_0(self):
        text = "push 1, push 7, push, drop, push 1, size, push 3, less, unless 11, call 0, back, push 6, back"
        self.assertGoes(code(text), ("done", 6, [7, 7, 7]))

    def test_a_fault_in_a_function(self):
        text = "call 1, drop, push 1, push 2, push, back, push 1, push 8, push, {}, back"
        for rows, outcome in (("fail", ("told", 8, [8])), ("push 0, quo", ("zero", 0, [8])), ("size", ("row", 0, [8]))):
            self.assertGoes(code(text.format(rows), 0, [(6, 0, 0)]), outcome)


class Deep(Going):
    # Function 1 of n: it puts n into the answer, and calls itself with n - 1, unless n is 0.
    OWN = "push {}, call 1, back, push 1, get 0, push, unless 12, get 0, push 1, sub, call 1, back, push 7, back"

    def down(self, many):
        return code(self.OWN.format(many), 0, [(3, 1, 1)])

    def test_sixteen_functions_done_at_once(self):
        for many in range(15):
            self.assertGoes(self.down(many), ("done", 7, list(range(many, -1, -1))))

    def test_a_seventeenth(self):
        self.assertGoes(self.down(15), ("deep", 0, list(range(15, 0, -1))))
        self.assertGoes(self.down(99), ("deep", 0, list(range(99, 84, -1))))

    def test_deep_goes_ahead_of_breath(self):
        self.assertGoes(code("call 0"), ("deep", 0, []), (), 16)
        self.assertGoes(code("call 0"), ("deep", 0, []), (), 17)
        self.assertGoes(code("call 0"), ("breath", 0, []), (), 15)

    def test_stray_goes_ahead_of_deep_and_breath(self):
        # Function 1 counts how many are being done; the sixteenth calls where it has no value left.
        numbers = code("push 1, call 1, back, get 0, push 1, add, set 0, push 16, less, unless 12, "
                       "get 0, call 1, call 1, back", 0, [(3, 1, 1)])
        for breaths in (16, 17, 100):
            self.assertGoes(numbers, ("stray", 0, []), (), breaths)
        self.assertGoes(numbers, ("breath", 0, []), (), 15)
        numbers = code("push 1, call 1, back, call 1, back", 0, [(3, 1, 1)])
        for breaths in (2, 3, 100):
            self.assertGoes(numbers, ("stray", 0, []), (), breaths)

    def test_functions_that_are_done_no_longer_do_not_count(self):
        text = ", ".join(["call 1, drop"] * 40) + ", push 3, back, push 4, back"
        self.assertGoes(code(text, 0, [(82, 0, 0)]), ("done", 3, []))


class Breaths(Going):
    def test_one_at_the_begin(self):
        for text in ("push 7, back", "back", "fail", "add", "get 5", "breath", "jump 0", "call 0", "push 1"):
            for most in (0, 1, MANY):
                self.assertFault(text, "breath", breaths=0, most=most)
                self.assertFault(text, "breath", breaths=-1, most=most)
        self.assertGoes(code("push 7, back"), ("done", 7, []), (), 1)

    def test_by_each_call_and_each_breath(self):
        text = "push 1, push 4, push, breath, call 1, push, call 1, push 1, push 5, push, back, "
        text += "push 1, push 8, push, back"
        numbers = code(text, 0, [(11, 0, 0)])
        self.assertGoes(numbers, ("breath", 0, [4]), (), 1)
        self.assertGoes(numbers, ("breath", 0, [4]), (), 2)
        self.assertGoes(numbers, ("row", 0, [4, 8]), (), 3)
        numbers = code(text.replace("call 1, push, call 1", "call 1, drop, call 1"), 0, [(11, 0, 0)])
        self.assertGoes(numbers, ("breath", 0, [4, 8]), (), 3)
        self.assertGoes(numbers, ("done", 5, [4, 8, 8, 5]), (), 4)

    def test_nothing_else_takes_one(self):
        text = "push 1, set 0, get 0, unless 12, push 1, pick 2, fail, new, drop, jump 10, push 3, back, fail"
        self.assertGoes(code(text), ("done", 3, []), (), 1)

    def test_thousands(self):
        self.assertGoes(code("breath, jump 0"), ("breath", 0, []), (), 20000)
        self.assertGoes(code("breath, push 1, push 3, push, drop, jump 0"), ("breath", 0, [3] * 9999), (), 10000)


class Stray(Going):
    def test_too_few_values(self):
        wanted = {"set 0": 1, "drop": 1, "unless 0": 1, "back": 1, "fail": 1, "pick 2": 1}
        wanted.update(DEED_PARTS)
        for row, many in wanted.items():
            for there in range(5):
                pushes = "".join(["push 1, "] * there)
                text = f"push 1, push 4, push, drop, {pushes}{row}, push 0, push 0, back"
                told = go(code(text), [3, 3], PLENTY, 50)
                if there < many:
                    self.assertEqual(told, ("stray", 0, [4]), (row, there))
                else:
                    self.assertNotEqual(told[0], "stray", (row, there))

    def test_too_few_values_of_a_call(self):
        for params in range(5):
            for there in range(6):
                pushes = "".join(["push 1, "] * there)
                numbers = code(f"{pushes}call 1, back, push 6, back", 0, [(there + 2, params, params)])
                self.assertGoes(numbers, ("done", 6, []) if there >= params else ("stray", 0, []))

    def test_too_few_values_goes_ahead_of_the_rows_own_faults(self):
        for text in ("push 0, quo, back", "push 0, rest, back", "push 9, at, back", "push 9, push 0, put, back",
                     f"push {HUNDRED}, add, back", "push 9, push, back", "fail"):
            self.assertFault(text, "stray")

    def test_a_box_that_the_function_has_not(self):
        for boxes in range(12):
            for box in range(12):
                value = ("done", 5, []) if box < boxes else ("stray", 0, [])
                self.assertGoes(code(f"push 5, set {box}, back", boxes), value)
                value = ("done", 0, []) if box < boxes else ("stray", 0, [])
                self.assertGoes(code(f"push 5, get {box}, back", boxes), value)

    def test_a_box_that_a_function_with_params_has_not(self):
        for params in range(5):
            for boxes in range(params, 12):
                for box in range(12):
                    text = f"push 1, push 1, push 1, push 1, call 1, back, get {box}, back"
                    numbers = code(text, 0, [(6, params, boxes)])
                    due = ("done", 1 if box < params else 0, []) if box < boxes else ("stray", 0, [])
                    self.assertGoes(numbers, due)

    def test_the_box_is_one_of_the_function_that_is_done(self):
        numbers = code("call 1, back, get 1, back", 12, [(2, 0, 1)])
        self.assertGoes(numbers, ("stray", 0, []))
        numbers = code("call 1, back, push 3, set 1, back", 0, [(2, 0, 2)])
        self.assertGoes(numbers, ("done", 3, []))
        numbers = code("call 1, get 1, back, push 3, set 1, back", 0, [(3, 0, 2)])
        self.assertGoes(numbers, ("stray", 0, []))

    def test_a_box_and_a_value_that_are_not_there(self):
        self.assertFault("set 0, back", "stray", boxes=0)
        self.assertFault("set 0, back", "stray", boxes=1)

    def test_a_row_behind_the_last_one(self):
        for text in ("push 1", "push 1, drop", "get 0", "push 1, set 0", "push 1, unless 0", "breath", "new",
                     "push 1, push 2, add", "jump 1, push 1"):
            self.assertFault(text, "stray")
        self.assertFault("push 1, push 4, push", "stray", [4])

    def test_a_call_ahead_of_nothing(self):
        # The function is done, and then the row behind the call isn't there.
        numbers = read_code("fun 4 0 0\nfun 0 0 0\npush 1\npush 4\npush\nback\ncall 1")
        self.assertGoes(numbers, ("stray", 0, [4]))
        self.assertGoes(numbers, ("stray", 0, [4]), (), 2)
        self.assertGoes(numbers, ("breath", 0, []), (), 1)

    def test_a_pick_that_leads_behind_the_last_row(self):
        for value, word in ((0, "done"), (1, "stray"), (2, "stray"), (3, "stray"), (-1, "stray"), (SIXTY, "stray")):
            self.assertGoes(code(f"push 8, push {value}, pick 3, back"), (word, 8 if word == "done" else 0, []))
        for value, word in ((0, "done"), (1, "done"), (2, "stray"), (-1, "stray")):
            self.assertGoes(code(f"push 8, push {value}, pick 12, back, back"), (word, 8 if word == "done" else 0, []))
        self.assertFault("push 0, pick 2", "stray")

    def test_an_unless_as_the_last_row(self):
        self.assertGoes(code("jump 3, push 9, back, push 0, unless 1"), ("done", 9, []))
        self.assertFault("jump 3, push 9, back, push 1, unless 1", "stray")


class Rows(Going):
    def assertRows(self, numbers, needed, outcome, given=(), breaths=PLENTY):
        """With so many rows it is the outcome, with less it is rows."""
        for most in (needed, needed + 1, 10000000):
            self.assertGoes(numbers, outcome, given, breaths, most)
        for most in range(needed):
            told = go(numbers, list(given), breaths, most)
            self.assertEqual(told[:2], ("rows", 0), most)
            self.assertEqual(told[2], outcome[2][:len(told[2])])

    def test_none(self):
        for text in ("back", "push 1, back", "get 5", "add", "jump 0", "fail", "breath"):
            self.assertFault(text, "rows", most=0)
            self.assertFault(text, "rows", most=0, breaths=1)

    def test_each_row_counts_once(self):
        self.assertRows(code("push 1, back"), 2, ("done", 1, []))
        self.assertRows(code("push 1, drop, push 2, set 0, get 0, add, back"), 7, ("done", 4, []))
        self.assertRows(code("jump 1, jump 2, push 0, unless 4, breath, push 5, back"), 7, ("done", 5, []))
        self.assertRows(code("push 1, pick 2, fail, jump 4, push 5, back"), 5, ("done", 5, []))
        self.assertRows(code("call 1, back, push 6, back", 0, [(2, 0, 0)]), 4, ("done", 6, []))
        self.assertRows(code("push 1, push 4, push, push 1, push 5, push, back"), 7, ("done", 5, [4, 5]))

    def test_of_faults(self):
        self.assertRows(code("push 1, fail, back"), 2, ("told", 1, []))
        self.assertRows(code("push 1, push 0, quo"), 3, ("zero", 0, []))
        self.assertRows(code("push 9, size"), 2, ("row", 0, []))
        self.assertRows(code("push 0, push 0, at"), 3, ("place", 0, []))
        self.assertRows(code(f"push {HUNDRED}, push 1, add"), 3, ("great", 0, []))
        self.assertRows(code("call 0"), 16, ("deep", 0, []))
        self.assertRows(code("push 1, push 4, push, breath"), 4, ("breath", 0, [4]), (), 1)
        self.assertRows(code("push 1, push 4, push, call 0"), 4, ("breath", 0, [4]), (), 1)

    def test_ahead_of_all_that_the_row_would_do(self):
        for text in ("push 1, push 0, quo", "push 1, push 9, size", "push 1, push 1, fail", "push 1, push 1, call 0",
                     "push 1, push 1, breath", "push 1, push 1, back", "push 1, push 1, get 11", "push 1, drop, drop"):
            self.assertFault(text, "rows", most=2, breaths=1)
            self.assertNotEqual(go(code(text), [], 1, 3)[0], "rows")

    def test_ahead_of_stray_by_the_row(self):
        for text in ("get 5", "drop", "back", "fail", "add", "set 0", "unless 0", "pick 2"):
            self.assertFault(text, "rows", most=0)
            self.assertFault(text, "stray", most=1)

    def test_behind_stray_of_a_row_that_is_not_there(self):
        self.assertFault("push 1", "stray", most=1)
        self.assertFault("push 1, push 2", "rows", most=1)
        self.assertFault("push 1, push 2", "stray", most=2)
        self.assertFault("push 5, pick 2", "stray", most=2)
        self.assertFault("push 0, pick 2", "stray", most=2)
        numbers = read_code("fun 2 0 0\nfun 0 0 0\npush 1\nback\ncall 1")
        self.assertGoes(numbers, ("stray", 0, []), (), PLENTY, 3)
        self.assertGoes(numbers, ("rows", 0, []), (), PLENTY, 2)

    def test_the_begins_breath_goes_ahead(self):
        self.assertFault("back", "breath", breaths=0, most=0)
        self.assertFault("push 1", "breath", breaths=0, most=0)

    def test_the_last_row_that_may_be_done_ends_it(self):
        self.assertGoes(code("push 1, back"), ("done", 1, []), (), 1, 2)
        self.assertGoes(code("push 1, fail"), ("told", 1, []), (), 1, 2)

    def test_the_answer_as_it_is_then(self):
        numbers = code("push 1, push 3, push, drop, jump 0")
        for most in range(60):
            self.assertGoes(numbers, ("rows", 0, [3] * ((most + 2) // 5)), (), 1, most)

    def test_rings(self):
        self.assertFault("jump 0", "rows", most=300000)
        self.assertFault("jump 1, jump 2, jump 0", "rows", most=1000)
        self.assertFault("push 0, unless 0", "rows", most=1001)


class NoCodes(Going):
    THINGS = (
        None, 7, "", "fun 0 0 0\nback", (1, 0, 0, 0, 7, 0), [], [0], [1], [1, 0, 0, 0], [1, 0, 0, 0, 7],
        [1, 0, 0, 0, 7, 1], [1, 1, 0, 0, 7, 0], [1, 0, 1, 1, 7, 0], [1, 0, 0, 13, 7, 0], [1, 0, 0, 0, 12, 0],
        [1, 0, 0, 0, 1, 12], [1, 0, 0, 0, 4, 1], [1, 0, 0, 0, 6, 1], [1, 0, 0, 0, 10, 7], [1, 0, 0, 0, 10, 20],
        [1, 0, 0, 0, 11, 1], [1, 0, 0, 0, 11, 13], [17] + [0, 0, 0] * 17 + [7, 0], [1, 0, 0, 0, 0, True],
        [True, 0, 0, 0, 7, 0], [1, 0, 0, 0, "7", 0], {},
    )

    def test_refused_ahead_of_a_breath(self):
        for thing in self.THINGS:
            for breaths, most in ((0, 0), (1, 1), (-1, 0), (PLENTY, MANY)):
                with self.assertRaises(NoCode, msg=thing) as caught:
                    go(thing, [], breaths, most)
                self.assertIsInstance(caught.exception, ChainError)

    def test_rows_that_nobody_comes_to_are_looked_at_too(self):
        with self.assertRaises(NoCode):
            go([1, 0, 0, 0, 0, 1, 7, 0, 4, 3], [], 1, 10)


class NothingChanged(Going):
    def test_the_answer_is_the_askers_own(self):
        numbers = code("push 1, push 0, push 0, at, push, drop, push 1, push 7, push, back")
        for breaths, most in ((0, 9), (1, 5), (1, 8), (1, 99)):
            first, kept = go(numbers, [3], breaths, most), go(numbers, [3], breaths, most)
            before = list(kept[2])
            first[2].append(9)
            first[2].reverse()
            self.assertEqual(kept[2], before)
            self.assertEqual(go(numbers, [3], breaths, most), kept)

    def test_what_is_handed_in_and_changed_later(self):
        numbers, given = code("push 1, push 0, push 0, at, push, back"), [3]
        told = go(numbers, given, 1, 99)
        given[0] = 4
        numbers[5] = 0
        self.assertEqual(told, ("done", 3, [3]))
        self.assertEqual(go(numbers, given, 1, 99), ("done", 4, []))

    def test_the_code_itself_as_what_is_given(self):
        numbers = code("push 0, push 0, push 9, put, push 0, push 5, push, push 0, size, back")
        before = list(numbers)
        self.assertEqual(go(numbers, numbers, 1, 99), ("done", len(before) + 1, []))
        self.assertEqual(numbers, before)

    def test_an_answer_may_be_given(self):
        square = "push 1, push 0, push 0, at, push 0, push 0, at, mul, push, back"
        answer = go(code(square), [10 ** 40], 1, 99)[2]
        self.assertEqual(answer, [10 ** 80])
        self.assertEqual(go(code(square), answer, 1, 99), ("great", 0, []))
        self.assertEqual(answer, [10 ** 80])


def random_code(dice):
    many_functions, many = dice.randint(1, 3), dice.randint(1, 14)
    heads = []
    for function in range(many_functions):
        params = dice.randint(0, 2) if function else 0
        heads.append((dice.randrange(many), params, params + dice.randint(0, 2)))
    rows = []
    for row in range(many):
        op = dice.choice((0, 0, 0, 0, 0, 1, 2, 3, 4, 5, 6, 7, 8, 9, 10, 10, 10, 11))
        number = {
            0: small_number(dice), 1: dice.randrange(3), 2: dice.randrange(3), 4: dice.randrange(many),
            5: dice.randrange(many), 6: dice.randrange(many_functions), 10: dice.randint(8, 19),
            11: dice.randint(2, 4),
        }.get(op, 0)
        rows.append((op, number))
    return code_of(heads, rows)


class SecondMachine(Going):
    """Random codes, held against a machine that was written another way, with each number of breaths and rows."""

    def test_random_codes(self):
        dice = random.Random(19)
        words = {}
        for turn in range(6000):
            numbers = random_code(dice)
            self.assertTrue(is_code(numbers))
            given = [small_number(dice) for place in range(dice.randrange(4))]
            before = (list(numbers), list(given))
            for breaths, most in ((0, 0), (1, dice.randrange(12)), (2, 60), (dice.randrange(30), 200)):
                outcome = go(numbers, given, breaths, most)
                self.assertEqual(outcome, second_go(numbers, given, breaths, most), (numbers, given, breaths, most))
                words[outcome[0]] = words.get(outcome[0], 0) + 1
            self.assertEqual((numbers, given), before)
        # Great comes too seldom by chance to be counted on.
        words.pop("great", None)
        self.assertEqual(sorted(words), ["breath", "deep", "done", "place", "row", "rows", "stray", "told", "zero"])


if __name__ == "__main__":
    unittest.main()
