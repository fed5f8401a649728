"""The plain runner [12, 13, 15, 16], and that nothing handed in is changed [2]."""

import random
import unittest

from ownchain.errors import ChainError, NoSheet
from ownchain.runner import run
from ownchain.sheets import wrong
from ownchain.texts import read_text
from programs import SIXTY, TWO_PARTS, WORDS, random_programs, second_run, small_number

PLENTY = 20000
HUNDRED = 10 ** 100 - 1


def sheet_of(text):
    return read_text(text)[1]


class Running(unittest.TestCase):
    def assertRun(self, text, outcome, given=(), breaths=PLENTY):
        sheet, numbers = sheet_of(text), list(given)
        told = run(sheet, numbers, breaths)
        self.assertEqual(told, outcome, text)
        self.assertEqual([type(thing) for thing in told], [str, int, list], text)
        self.assertIs(type(told), tuple)
        self.assertEqual((sheet, numbers), (sheet_of(text), list(given)), text)

    def assertBody(self, body, word, number, answer=(), given=(), breaths=PLENTY):
        self.assertRun(f"fun main with k j is {body}", (word, number, list(answer)), given, breaths)

    def assertDone(self, body, value, answer=(), given=()):
        self.assertBody(body, "done", value, answer, given)


class Nodes(Running):
    def test_number(self):
        for number in (0, 1, -1, SIXTY, -SIXTY):
            self.assertDone(f"{number}", number)

    def test_the_documents_example(self):
        text = "fun main with k is all 2 set k add k 1 call more k fun more n with is mul n n"
        self.assertRun(text, ("done", 1, []))
        self.assertRun(text.replace("add k 1", "add k 12"), ("done", 144, []))

    def test_boxes_hold_0_at_first(self):
        self.assertDone("k", 0)
        self.assertDone("add k j", 0)
        self.assertRun("fun m with a b c d e f g h i j k l is add l add a f", ("done", 0, []))

    def test_set_comes_to_the_value_that_the_box_holds(self):
        self.assertDone("set k 5", 5)
        self.assertDone("all 2 set k 5 k", 5)
        self.assertDone("all 2 set k 5 j", 0)
        self.assertDone("all 3 set k 5 set k -6 k", -6)
        self.assertDone("add mul 10 set k 4 set j add k 3", 47)
        self.assertDone("set k set j 9", 9)
        self.assertDone("all 2 set k set j 9 sub k mul 2 j", -9)
        self.assertRun("fun m with a b c d e f g h i j k l is all 3 set l 3 set a 4 sub l a", ("done", -1, []))

    def test_all_comes_to_the_last_parts_value(self):
        self.assertDone("all 1 7", 7)
        self.assertDone("all 12 1 2 3 4 5 6 7 8 9 10 11 12", 12)
        self.assertDone("all 3 set k 1 set k add mul k 10 2 set k add mul k 10 3", 123)

    def test_pick(self):
        for many in range(2, 13):
            others = " ".join(str(100 + number) for number in range(many))
            for value in range(many):
                self.assertDone(f"pick {many} {value} {others}", 100 + value)
            for value in (many, many + 1, -1, -2, -many, SIXTY, -SIXTY):
                self.assertDone(f"pick {many} {value} {others}", 100 + many - 1)

    def test_pick_does_one_of_the_others_alone(self):
        for value, put in ((0, 5), (1, 6), (2, 7), (3, 7), (-1, 7)):
            self.assertDone(f"pick 3 push 1 {value} push 1 5 push 1 6 push 1 7", put, [value, put])
        self.assertDone("pick 2 0 4 fail 3", 4)
        self.assertBody("pick 2 1 4 fail 3", "told", 3)

    def test_a_pick_by_a_truth_of_less_or_same(self):
        self.assertDone("pick 2 less 1 2 4 5", 5)
        self.assertDone("pick 2 same 1 2 4 5", 4)

    def test_loops(self):
        self.assertDone("loop 0 fail 1", 0)
        self.assertDone("loop push 1 0 push 1 9", 0, [0])
        self.assertDone("loop less push 1 k 3 set k add k 1", 0, [0, 1, 2, 3])
        self.assertDone("all 2 loop sub k 3 set k add k 1 k", 3)
        self.assertDone("all 2 loop sub k -3 set k sub k 1 k", -3)
        self.assertDone("all 2 loop less k 5 all 2 push 1 k set k add k 2 size 1", 3, [0, 2, 4])

    def test_a_loop_is_done_as_long_as_its_first_part_is_not_0(self):
        for given in ([5, -3, 1, 0, 7], [0], [SIXTY, -SIXTY, 0], [1, 1, 1, 1, 0, 1]):
            due = given[:given.index(0)]
            self.assertDone("loop set j at 0 k all 2 push 1 j set k add k 1", 0, due, given)

    def test_a_loop_in_a_loop(self):
        inner = "loop less j k all 2 push 1 add mul 10 k j set j add j 1"
        body = f"all 2 loop less k 3 all 3 set j 0 {inner} set k add k 1 0"
        self.assertDone(body, 0, [10, 20, 21])

    def test_a_loop_of_many_turns(self):
        for turns in (1, 100, 6000, 19998):
            self.assertDone(f"all 2 loop less k {turns} all 2 set k add k 1 set j add j k j", turns * (turns + 1) // 2)

    def test_fail(self):
        for number in (0, 1, -1, SIXTY, -SIXTY):
            self.assertBody(f"fail {number}", "told", number)
        self.assertBody("all 3 push 1 4 fail add 1 push 1 5 push 1 6", "told", 6, [4, 5])
        self.assertBody("fail fail 3", "told", 3)

    def test_parts_are_done_from_the_left_each_once(self):
        for kind in TWO_PARTS:
            told = run(sheet_of(f"fun m with is {WORDS[kind]} push 1 0 push 1 1"), [], 1)
            self.assertEqual(told[2], [0, 1], WORDS[kind])
        self.assertDone("put push 1 1 push 1 0 push 1 7", 7, [7, 0, 7])
        self.assertDone("size push 1 1", 1, [1])
        self.assertDone("set k push 1 8", 8, [8])
        self.assertDone("all 3 push 1 3 push 1 4 push 1 5", 5, [3, 4, 5])
        text = "fun m with is call f push 1 1 push 1 2 push 1 3 push 1 4 fun f a b c d with is all 2 push 1 9 d"
        self.assertRun(text, ("done", 4, [1, 2, 3, 4, 9]))

    def test_a_fault_of_a_part_goes_ahead_of_what_is_behind(self):
        for kind in TWO_PARTS:
            self.assertBody(f"{WORDS[kind]} fail 1 fail 2", "told", 1)
            self.assertBody(f"{WORDS[kind]} push 1 3 fail 2", "told", 2, [3])
        self.assertBody("set k fail 4", "told", 4)
        self.assertBody("pick 2 fail 4 5 6", "told", 4)
        self.assertBody("loop fail 4 5", "told", 4)
        self.assertBody("loop 1 fail 5", "told", 5)

    def test_a_box_is_read_when_its_turn_comes(self):
        self.assertDone("add k set k 5", 5)
        self.assertDone("add set k 5 k", 10)
        self.assertDone("sub k all 2 set k 7 1", -1)


class Rows(Running):
    def test_row_0_is_what_is_given(self):
        self.assertDone("size 0", 0)
        self.assertDone("size 0", 3, (), [7, 8, 9])
        for place, value in enumerate((7, -8, SIXTY)):
            self.assertDone(f"at 0 {place}", value, (), [7, -8, SIXTY])

    def test_row_1_is_the_answer(self):
        self.assertDone("size 1", 0, (), [7, 8, 9])
        self.assertDone("all 2 push 1 5 push 1 -6", -6, [5, -6])
        self.assertDone("all 3 push 1 5 put 1 0 9 at 1 0", 9, [9])

    def test_new_rows_are_2_and_on(self):
        self.assertDone("new", 2)
        self.assertDone("all 3 new new new", 4)
        self.assertDone("all 4 set k new push k 5 push k 6 add mul 10 size k at k 1", 26)
        self.assertDone("all 3 set k new set j new all 3 push k 5 push j 6 sub at k 0 at j 0", -1)
        self.assertBody("size 2", "row", 0)

    def test_row_0_is_the_runs_own(self):
        given = [1, 2, 3]
        sheet = sheet_of("fun m with is all 3 push 0 9 put 0 0 8 push 1 at 0 0")
        self.assertEqual(run(sheet, given, 1), ("done", 8, [8]))
        self.assertEqual(given, [1, 2, 3])
        self.assertEqual(run(sheet, given, 1), ("done", 8, [8]))

    def test_the_sheet_itself_as_what_is_given(self):
        sheet = sheet_of("fun m with is all 3 push 0 9 put 0 0 8 push 1 at 0 0")
        before = list(sheet)
        self.assertEqual(run(sheet, sheet, 1), ("done", 8, [8]))
        self.assertEqual(sheet, before)

    def test_a_copy_of_what_is_given(self):
        text = "fun m with k is all 2 loop less k size 0 all 2 push 1 at 0 k set k add k 1 k"
        for given in ([], [3], [5, -1, 0, SIXTY, -SIXTY], list(range(3000))):
            self.assertRun(text, ("done", len(given), given), given)


class Calls(Running):
    def test_params(self):
        text = "fun m with is call f 1 2 3 4 fun f a b c d with e is add mul 1000 a add mul 100 b add mul 10 c add d e"
        self.assertRun(text, ("done", 1234, []))
        self.assertRun("fun m with is call f 7 fun f a with is a", ("done", 7, []))
        self.assertRun("fun m with k is all 2 call f k call f 1 fun f a with is sub a 5", ("done", -4, []))

    def test_boxes_are_0_anew_at_each_call(self):
        text = "fun m with is all 3 call f 1 call f 2 call f 3 "
        text += "fun f a with b c is push 1 set b add mul 10 b set c add c a"
        self.assertRun(text, ("done", 3, [1, 2, 3]))

    def test_boxes_are_each_calls_own(self):
        text = "fun m with k is all 3 set k 5 call f 9 push 1 k fun f k with j is all 2 set k 6 set j 7"
        self.assertRun(text, ("done", 5, [5]))
        text = "fun m with is call f 3 fun f n with k is all 3 set k n pick 2 n 0 call f sub n 1 push 1 k"
        self.assertRun(text, ("done", 3, [0, 1, 2, 3]))

    def test_a_param_that_is_set_changes_nothing_of_the_caller(self):
        self.assertRun("fun m with k is all 3 set k 4 call f k k fun f a with is set a 9", ("done", 4, []))

    def test_rows_are_the_runs(self):
        text = "fun m with k is all 3 set k new call f k at k 0 fun f r with is all 2 push r 8 push 1 r"
        self.assertRun(text, ("done", 8, [2]))

    def test_functions_that_come_later_and_call_back(self):
        text = "fun a with is call b 5 fun b n with is pick 2 n 100 call c sub n 1 "
        text += "fun c n with is pick 2 n 200 call b sub n 1"
        self.assertRun(text, ("done", 200, []))
        self.assertRun(text.replace("call b 5", "call b 4"), ("done", 100, []))

    def test_a_call_of_function_0(self):
        text = "fun m with k is all 2 push 1 k pick 2 less size 1 4 7 call m"
        self.assertRun(text, ("done", 7, [0, 0, 0, 0]))

    def test_a_fault_in_a_function(self):
        self.assertRun("fun m with is all 2 call f 3 push 1 1 fun f a with is fail mul a a", ("told", 9, []))
        self.assertRun("fun m with is all 2 call f 3 push 1 1 fun f a with is quo a 0", ("zero", 0, []))


class Deep(Running):
    # f n: 1 + f (n - 1), and 0 of 0; with function 0 there are n + 2 functions done at once.
    DOWN = "fun m with is call f N fun f n with is all 2 push 1 n pick 2 n 0 add 1 call f sub n 1"

    def test_sixteen_functions_done_at_once(self):
        for many in range(15):
            self.assertRun(self.DOWN.replace("N", str(many)), ("done", many, list(range(many, -1, -1))))

    def test_a_seventeenth(self):
        self.assertRun(self.DOWN.replace("N", "15"), ("deep", 0, list(range(15, 0, -1))))
        self.assertRun(self.DOWN.replace("N", "99"), ("deep", 0, list(range(99, 84, -1))))
        self.assertRun("fun m with is all 2 push 1 4 call m", ("deep", 0, [4] * 16))

    def test_functions_that_are_done_no_longer_do_not_count(self):
        text = "fun m with k is all 2 loop less k 40 all 2 set k add k 1 call f 14 k "
        text += "fun f n with is pick 2 n 0 add 1 call f sub n 1"
        self.assertRun(text, ("done", 40, []))

    def test_functions_that_were_done_before_make_no_room(self):
        text = "fun m with is all 3 call e call e call f N fun f n with is all 2 call e pick 2 n 0 add 1 call f sub n 1"
        self.assertRun(text.replace("N", "13") + " fun e with is 0", ("done", 13, []))
        self.assertRun(text.replace("N", "14") + " fun e with is 0", ("deep", 0, []))
        self.assertRun(text.replace("N", "15") + " fun e with is 0", ("deep", 0, []))

    def test_parts_are_done_ahead_of_deep(self):
        text = "fun m with is call f 0 fun f n with is call f push 1 add n 1"
        self.assertRun(text, ("deep", 0, list(range(1, 16))))
        text = "fun m with is call f 0 fun f n with is call f pick 2 same n 14 add n 1 fail 77"
        self.assertRun(text, ("told", 77, []))

    def test_deep_goes_ahead_of_breath(self):
        self.assertRun("fun m with is call m", ("deep", 0, []), (), 16)
        self.assertRun("fun m with is call m", ("deep", 0, []), (), 17)
        self.assertRun("fun m with is call m", ("breath", 0, []), (), 15)

    def test_ten_deep_in_sixteen_functions(self):
        # The deepest that there is: nine nodes around each call.
        for around, value in (("add 1 ", 135), ("all 1 ", 0), ("set k ", 0), ("pick 2 0 ", 0), ("sub 1 ", 1)):
            behind = " 0" * 9 if around == "pick 2 0 " else ""
            one = "fun {} with k is " + around * 9 + "call {}" + behind
            text = " ".join(one.format(*names) for names in zip("abcdefghijklmno", "bcdefghijklmnop"))
            self.assertRun(text + " fun p with is 0", ("done", value, []))

    def test_ten_deep_in_sixteen_functions_by_loops(self):
        one = "fun {} with k is " + "loop " * 9 + "call {}" + " new" * 9
        text = " ".join(one.format(*names) for names in zip("abcdefghijklmno", "bcdefghijklmnop"))
        self.assertRun(text + " fun p with is 0", ("done", 0, []))
        self.assertRun(text + " fun p with is " + "loop " * 8 + "fail 5" + " new" * 8, ("told", 5, []))


class Breaths(Running):
    def assertBreaths(self, text, needed, outcome, given=()):
        """With so many breaths it is the outcome, with one less it is breath."""
        self.assertRun(text, outcome, given, needed)
        self.assertRun(text, outcome, given, needed + 1)
        told = run(sheet_of(text), list(given), needed - 1)
        self.assertEqual(told[:2], ("breath", 0))
        return told[2]

    def test_one_at_the_begin(self):
        for body in ("7", "fail 3", "quo 1 0", "push 1 4", "at 9 9", "new"):
            self.assertBody(body, "breath", 0, [], [], 0)
            self.assertNotEqual(run(sheet_of(f"fun m with is {body}"), [], 1)[0], "breath")

    def test_below_none(self):
        self.assertBody("7", "breath", 0, [], [], -1)
        self.assertBody("loop 1 0", "breath", 0, [], [], -5)

    def test_what_is_given_changes_nothing_of_it(self):
        self.assertBody("push 1 at 0 0", "breath", 0, [], [5, 6], 0)

    def test_one_by_each_call(self):
        text = "fun m with is all 3 call f 1 call f 2 call f 3 fun f a with is push 1 a"
        self.assertBreaths(text, 4, ("done", 3, [1, 2, 3]))
        for breaths in range(1, 4):
            self.assertRun(text, ("breath", 0, list(range(1, breaths))), (), breaths)

    def test_parts_of_a_call_are_done_ahead_of_its_breath(self):
        text = "fun m with is call f push 1 5 fun f a with is push 1 a"
        self.assertEqual(self.assertBreaths(text, 2, ("done", 5, [5, 5])), [5])
        self.assertRun("fun m with is call f fail 3 fun f a with is a", ("told", 3, []), (), 1)
        self.assertRun("fun m with is call f call f 4 fun f a with is push 1 add a 1", ("breath", 0, [5]), (), 2)

    def test_one_each_time_a_loops_first_part_is_about_to_be_done(self):
        self.assertEqual(self.assertBreaths("fun m with is loop push 1 0 fail 1", 2, ("done", 0, [0])), [])
        text = "fun m with k is loop less push 1 k 3 set k add k 1"
        self.assertEqual(self.assertBreaths(text, 5, ("done", 0, [0, 1, 2, 3])), [0, 1, 2])

    def test_the_second_part_is_done_ahead_of_the_next_breath(self):
        text = "fun m with is loop push 1 1 push 1 2"
        for breaths in range(1, 40):
            self.assertRun(text, ("breath", 0, [1, 2] * (breaths - 1)), (), breaths)

    def test_a_fault_ahead_of_the_breath(self):
        self.assertRun("fun m with is loop 1 fail 2", ("told", 2, []), (), 2)
        self.assertRun("fun m with is loop 1 fail 2", ("breath", 0, []), (), 1)
        self.assertRun("fun m with is loop fail 2 1", ("told", 2, []), (), 2)
        self.assertRun("fun m with is loop fail 2 1", ("breath", 0, []), (), 1)

    def test_nothing_else_takes_one(self):
        body = "all 9 set k new push k 1 put k 0 2 at k 0 size k pick 2 less 1 2 3 4 "
        body += "add sub 1 2 mul 3 4 rest 9 quo 7 2 same 1 1"
        self.assertBody(body, "done", 1, [], [], 1)

    def test_loops_and_calls_together(self):
        text = "fun m with k is loop less k 3 set k call f k "
        text += "fun f n with j is all 2 loop less j n set j add j 1 add n 1"
        # The begin; k at 0 to 3; three calls; in them j at 0 to n of 0, 1, 2.
        self.assertBreaths(text, 1 + 4 + 3 + (1 + 2 + 3), ("done", 0, []))

    def test_thousands(self):
        for turns in (4000, 19998):
            text = f"fun m with k is all 2 loop less k {turns} set k add k 1 k"
            self.assertBreaths(text, turns + 2, ("done", turns, []))
        self.assertEqual(run(sheet_of("fun m with is loop 1 push 1 3"), [], PLENTY), ("breath", 0, [3] * (PLENTY - 1)))


class Faults(Running):
    def test_zero(self):
        self.assertBody("all 2 push 1 4 quo 7 0", "zero", 0, [4])
        self.assertBody("all 2 push 1 4 rest 7 k", "zero", 0, [4])
        self.assertDone("quo -7 2", -4)
        self.assertDone("rest -7 2", 1)

    def test_great(self):
        fifty, forty_nine = "1" + "0" * 50, "1" + "0" * 49
        self.assertDone(f"mul {fifty} {forty_nine}", 10 ** 99)
        self.assertBody(f"all 2 push 1 4 mul {fifty} {fifty}", "great", 0, [4])
        self.assertBody(f"all 2 push 1 4 mul -{fifty} {fifty}", "great", 0, [4])
        # k is a hundred nines then.
        nines = f"all 3 set j mul {fifty} {forty_nine} set k add mul 9 j sub j 1"
        self.assertDone(f"{nines} k", HUNDRED)
        self.assertDone(f"{nines} sub 0 k", -HUNDRED)
        for body in ("add k 1", "add 1 k", "sub k -1", "sub -1 k", "add sub 0 k -1", "mul 2 k", "mul k k", "mul -2 k"):
            self.assertBody(f"{nines} {body}", "great", 0)

    def test_row_and_place(self):
        for number in ("-1", "2", str(SIXTY), str(-SIXTY)):
            for body in (f"push {number} 4", f"at {number} 0", f"put {number} 0 4", f"size {number}"):
                self.assertBody(f"all 2 push 1 4 {body}", "row", 0, [4], [5])
        for place in ("-1", "1", str(SIXTY), str(-SIXTY)):
            for row in ("0", "1"):
                self.assertBody(f"all 2 push 1 4 at {row} {place}", "place", 0, [4], [5])
                self.assertBody(f"all 2 push 1 4 put {row} {place} 6", "place", 0, [4], [5])
        self.assertBody("at -1 -1", "row", 0)

    def test_told_with_its_value(self):
        self.assertBody("all 3 push 1 4 set k 9 fail k", "told", 9, [4])
        self.assertBody("fail mul 1{0} 1{0}".format("0" * 49), "told", 10 ** 98)

    def test_nothing_is_done_behind_a_fault(self):
        for fault in ("quo 1 0", "fail 1", "at 0 5", "size 7", "mul 1{0} 1{0}".format("0" * 59)):
            told = run(sheet_of(f"fun m with is all 3 push 1 1 {fault} push 1 2"), [], PLENTY)
            self.assertEqual(told[2], [1], fault)


class NoSheets(Running):
    def test_refused_with_the_place_and_word(self):
        lists = [[], [0], [17], [1, 1, 1, 19], [1, 0, 0, 20], [1, 0, 0, 19, 19], [1, 0, 0, 8, 19]]
        lists.append([1, 0, 0] + [18] * 10)
        for numbers in lists:
            for breaths in (0, 1, 20000, -1):
                before = list(numbers)
                with self.assertRaises(NoSheet) as caught:
                    run(numbers, [], breaths)
                self.assertIsInstance(caught.exception, ChainError)
                self.assertEqual((caught.exception.place, caught.exception.word), wrong(numbers))
                self.assertEqual(numbers, before)

    def test_what_is_never_done_is_looked_through_too(self):
        with self.assertRaises(NoSheet) as caught:
            run([2, 0, 0, 0, 0, 19, 20], [], 1)
        self.assertEqual((caught.exception.place, caught.exception.word), (6, "range"))


class NothingChanged(Running):
    def test_the_answer_is_the_askers_own(self):
        sheet = sheet_of("fun m with is all 2 push 1 at 0 0 push 1 7")
        for breaths in (0, 1):
            first = run(sheet, [3], breaths)
            kept = run(sheet, [3], breaths)
            before = list(kept[2])
            first[2].append(9)
            first[2].reverse()
            self.assertEqual(kept[2], before)
            self.assertEqual(run(sheet, [3], breaths), kept)
            self.assertEqual(kept[2], before)

    def test_what_is_handed_in_and_changed_later(self):
        sheet, given = sheet_of("fun m with is all 2 push 1 at 0 0 push 1 7"), [3]
        told = run(sheet, given, 1)
        given[0] = 4
        sheet[-1] = 8
        self.assertEqual(told, ("done", 7, [3, 7]))
        self.assertEqual(run(sheet, given, 1), ("done", 8, [4, 8]))

    def test_an_answer_may_be_given(self):
        sheet = sheet_of("fun m with k is all 2 push 1 mul at 0 0 at 0 0 0")
        answer = run(sheet, [10 ** 40], 1)[2]
        self.assertEqual(answer, [10 ** 80])
        self.assertEqual(run(sheet, answer, 1), ("great", 0, []))
        self.assertEqual(answer, [10 ** 80])


class SecondRunner(Running):
    """Random programs, held against a runner that was written another way, with each number of breaths."""

    def test_random_programs(self):
        dice = random.Random(13)
        words = {}
        for sheet, told in random_programs(dice, 1000, small_number):
            given = [small_number(dice) for place in range(dice.randrange(5))]
            before = (list(sheet), list(given))
            for breaths in list(range(7)) + [12, 60]:
                outcome = run(sheet, given, breaths)
                self.assertEqual(outcome, second_run(told, given, breaths), (sheet, given, breaths))
                words[outcome[0]] = True
            self.assertEqual((sheet, given), before)
        # Great comes too seldom by chance to be counted on.
        words.pop("great", None)
        self.assertEqual(sorted(words), ["breath", "deep", "done", "place", "row", "told", "zero"])


if __name__ == "__main__":
    unittest.main()
