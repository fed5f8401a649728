"""Papers [23] to [25]: rows meant, fixed nodes, what is let by, and that nothing handed in is changed [2]."""

import copy
import itertools
import random
import unittest

from ownchain.codes import code_of, heads_of, is_code, rows_of
from ownchain.codetexts import read_code
from ownchain.errors import ChainError, NoCode, NoSheet
from ownchain.machine import go
from ownchain.maker import made, made_paper
from ownchain.papers import enough, fixed, lets_by, meant
from ownchain.runner import run
from ownchain.sheets import functions, nodes, wrong
from ownchain.texts import read_text
from programs import (
    KINDS, SIXTY, any_number, placed, random_programs, second_fixed, second_lets_by, second_meant, small_number,
)

HUNDRED = 10 ** 100 - 1
PUSH, GET, SET, DROP, JUMP, UNLESS, CALL, BACK, FAIL, BREATH, DO, PICK = range(12)

# Each of these has all that its body's kind can have right or wrong; together they have all kinds.
TEXTS = (
    "fun m with is 7",
    "fun m with k is k",
    "fun m with k j is set j k",
    "fun m with k is all 3 k 4 new",
    "fun m with k is all 1 k",
    "fun m with k is pick 2 k 4 5",
    "fun m with k is pick 3 size 0 new k 6",
    "fun m with k is pick 2 1 k 5",
    "fun m with k is loop k set k 4",
    "fun m with k is fail k",
    "fun m with is add 2 3",
    "fun m with k is sub k mul 2 3",
    "fun m with is quo 7 sub 2 2",
    "fun m with k is put k size 1 at 0 k",
    "fun m with is push 1 rest 7 3",
    "fun m with is call f 4 new fun f a b with c is same a less b c",
    "fun m with k is loop less k 3 all 2 call f k set k add k 1 fun f n with is pick 2 n fail 3 push 1 n",
    "fun m with k is pick 2 less 2 1 loop k 3 call g fun f with is 0 fun g with a is set a call f",
)


def sheet_of(text):
    return read_text(text)[1]


def node_of(text):
    return functions(sheet_of(f"fun m with k j is {text}"))[0][2]


def rows_in(text):
    """Rows of a text as in [11], parted by commas, as tuples."""
    return rows_of(read_code("\n".join(["fun 0 0 0"] + text.split(", "))))


class Meant(unittest.TestCase):
    def assertMeant(self, text, numbers):
        """Of each row, and of the one behind the last."""
        rows = rows_in(text)
        before = list(rows)
        for at, due in enumerate(numbers + [None]):
            told = meant(rows, at)
            self.assertEqual(told, due, (text, at))
            self.assertIn(type(told), (int, type(None)))
            self.assertEqual(meant([list(row) for row in rows], at), due)
        self.assertEqual(len(numbers), len(rows))
        self.assertEqual(rows, before)

    def test_no_jump(self):
        self.assertMeant("push 1", [0])
        self.assertMeant("push 4, drop, back", [0, 1, 2])

    def test_other_rows_lead_nowhere_else(self):
        text = "push 0, get 0, set 0, drop, unless 0, call 0, back, fail, breath, add, new, pick 2"
        self.assertMeant(text, list(range(12)))

    def test_one_jump(self):
        self.assertMeant("jump 2, push 1, back", [2, 1, 2])
        self.assertMeant("push 1, back, jump 0", [0, 1, 0])

    def test_jumps_one_behind_another(self):
        self.assertMeant("jump 1, jump 2, jump 3, back", [3, 3, 3, 3])
        self.assertMeant("back, jump 0, jump 1, jump 2", [0, 0, 0, 0])
        self.assertMeant("jump 3, back, jump 4, jump 2, jump 1", [1, 1, 1, 1, 1])

    def test_rings(self):
        self.assertMeant("jump 0", [None])
        self.assertMeant("jump 1, jump 0", [None, None])
        self.assertMeant("jump 0, jump 1, back", [None, None, 2])
        self.assertMeant("jump 1, jump 2, jump 0, back", [None, None, None, 3])
        self.assertMeant("jump 4, jump 0, jump 3, jump 1, jump 2", [None] * 5)

    def test_a_jump_into_a_ring(self):
        self.assertMeant("jump 1, jump 1, back", [None, None, 2])
        self.assertMeant("jump 1, jump 2, jump 3, jump 2", [None] * 4)
        self.assertMeant("jump 3, push 1, jump 0, jump 4, jump 3, jump 1", [None, 1, None, None, None, 1])

    def test_the_row_behind_the_last_one(self):
        self.assertIsNone(meant([], 0))
        for many in range(1, 5):
            self.assertIsNone(meant([(BACK, 0)] * many, many))

    def test_a_jump_that_leads_behind_the_last_row(self):
        self.assertIsNone(meant([(JUMP, 1)], 0))
        self.assertIsNone(meant([(JUMP, 2), (BACK, 0)], 0))
        self.assertIsNone(meant([(JUMP, 7), (BACK, 0)], 0))
        self.assertIsNone(meant([(JUMP, -1), (BACK, 0)], 0))

    def test_long_ways(self):
        many = 3000
        rows = [(JUMP, at + 1) for at in range(many)] + [(BACK, 0)]
        self.assertEqual(meant(rows, 0), many)
        rows[many] = (JUMP, 0)
        self.assertIsNone(meant(rows, 0))
        self.assertIsNone(meant(rows, many))
        rows[many] = (JUMP, many)
        self.assertIsNone(meant(rows, 0))

    def test_random_rows(self):
        dice = random.Random(23)
        for turn in range(1000):
            many = dice.randint(1, 9)
            rows = [(JUMP, dice.randrange(many)) if dice.random() < 0.7 else (BACK, 0) for row in range(many)]
            for at in range(many + 1):
                self.assertEqual(meant(rows, at), second_meant(rows, at), (rows, at))


class Fixed(unittest.TestCase):
    def assertFixed(self, text, value):
        node = node_of(text)
        before = copy.deepcopy(node)
        told = fixed(node)
        self.assertEqual(told, value, text)
        self.assertIn(type(told), (int, type(None)))
        self.assertEqual(node, before)

    def test_numbers(self):
        for number in (0, 1, -1, SIXTY, -SIXTY):
            self.assertFixed(f"{number}", number)

    def test_each_kind_of_fixed_parts(self):
        for word, value in (("add", 9), ("sub", 5), ("mul", 14), ("quo", 3), ("rest", 1), ("less", 0), ("same", 0)):
            self.assertFixed(f"{word} 7 2", value)
        for word, value in (("add", 9), ("sub", -5), ("mul", 14), ("quo", 0), ("rest", 2), ("less", 1), ("same", 0)):
            self.assertFixed(f"{word} 2 7", value)
        self.assertFixed("same 4 4", 1)
        self.assertFixed("quo -7 2", -4)
        self.assertFixed("rest -7 2", 1)

    def test_one_within_another(self):
        self.assertFixed("add mul 2 3 sub 4 less 1 2", 9)
        self.assertFixed("quo 100 rest 17 quo 9 same 3 add 1 2", 0 if 17 % 9 == 0 else 100 // (17 % 9))
        self.assertFixed("add 1 " * 9 + "1", 10)

    def test_zero_within(self):
        for text in ("quo 1 0", "rest 1 0", "add quo 1 0 2", "add 2 rest 5 sub 3 3", "same quo 1 0 quo 1 0",
                     "mul 0 quo 1 0"):
            self.assertFixed(text, None)

    def test_great_within(self):
        fifty, forty_nine = "1" + "0" * 50, "1" + "0" * 49
        self.assertFixed(f"mul {fifty} {forty_nine}", 10 ** 99)
        self.assertFixed(f"mul {fifty} {fifty}", None)
        self.assertFixed(f"less 1 mul {fifty} {fifty}", None)
        self.assertFixed(f"mul 0 mul {fifty} {fifty}", None)
        nines = f"add mul 9 mul {fifty} {forty_nine} sub mul {fifty} {forty_nine} 1"
        self.assertFixed(nines, HUNDRED)
        self.assertFixed(f"add {nines} 1", None)
        self.assertFixed(f"sub {nines} 1", HUNDRED - 1)

    def test_other_kinds(self):
        for text in ("k", "set k 4", "all 1 4", "all 2 4 5", "pick 2 0 4 5", "loop 0 1", "call m", "fail 4", "push 1 4",
                     "at 0 0", "put 1 0 4", "size 0", "new"):
            self.assertFixed(text, None)
            for word in ("add", "sub", "mul", "quo", "rest", "less", "same"):
                self.assertFixed(f"{word} 1 {text}", None)
                self.assertFixed(f"{word} {text} 1", None)

    def test_whatever_the_places(self):
        for places in ((0, 0, 0), (-1, 7, 7), (SIXTY, 3, 3), (None, None, None)):
            first, second, third = places
            node = (KINDS["sub"], first, (), ((0, second, (9,), ()), (0, third, (4,), ())))
            self.assertEqual(fixed(node), 5)

    def test_a_body_that_is_deeper_than_a_sheets(self):
        node = (0, [1], [])
        for deep in range(60):
            node = (8, [], [node, (0, [1], [])])
        self.assertEqual(fixed(placed(node, 0)[0]), 61)

    def test_all_nodes_of_random_programs(self):
        for value in (any_number, small_number):
            for sheet, told in random_programs(random.Random(24), 200, value):
                for node in nodes(sheet):
                    self.assertEqual(fixed(node), second_fixed(node))


class Letting(unittest.TestCase):
    def letting(self, sheet, code, paper):
        """What is told, held against a second one, and, where it is let by, the machine against the runner."""
        before = (list(sheet), list(code), copy.deepcopy(paper))
        told = lets_by(sheet, code, paper)
        self.assertIn(told, (True, False))
        self.assertIs(type(told), bool)
        self.assertEqual((sheet, code, paper), before)
        self.assertEqual(told, second_lets_by(functions(sheet), heads_of(code), rows_of(code), paper), before)
        if told:
            for given, breaths in (([], 0), ([], 1), ([1, 0, 2], 2), ([3], 4), ([0, 5, 1], 25)):
                outcome = go(code, given, breaths, enough(sheet, code, breaths))
                self.assertEqual(outcome, run(sheet, given, breaths), (before, given, breaths))
        return told

    def assertLet(self, sheet, code, paper):
        self.assertIs(self.letting(sheet, code, paper), True, (sheet, code, paper))

    def assertNotLet(self, sheet, code, paper):
        self.assertIs(self.letting(sheet, code, paper), False, (sheet, code, paper))


class MadeCodes(Letting):
    def test_the_made_code_with_its_paper(self):
        for text in TEXTS:
            sheet = sheet_of(text)
            self.assertLet(sheet, made(sheet), made_paper(sheet))

    def test_random_sheets(self):
        for sheet, told in random_programs(random.Random(25), 150, small_number):
            self.assertLet(sheet, made(sheet), made_paper(sheet))

    def test_in_another_order(self):
        dice = random.Random(26)
        for text in TEXTS:
            sheet = sheet_of(text)
            paper = made_paper(sheet)
            self.assertLet(sheet, made(sheet), paper[::-1])
            dice.shuffle(paper)
            self.assertLet(sheet, made(sheet), paper)

    def test_of_another_sheet(self):
        for one, other in itertools.permutations(TEXTS, 2):
            sheet = sheet_of(other)
            self.assertNotLet(sheet_of(one), made(sheet), made_paper(sheet))

    def test_an_empty_paper(self):
        for text in TEXTS:
            self.assertNotLet(sheet_of(text), made(sheet_of(text)), [])

    def test_each_line_left_out(self):
        # All nodes are needed here: none is within a fixed one or a pick that is done ahead.
        for text in TEXTS:
            sheet = sheet_of(text)
            paper = made_paper(sheet)
            for at in range(len(paper)):
                self.assertNotLet(sheet, made(sheet), paper[:at] + paper[at + 1:])

    def test_each_line_told_twice(self):
        for text in TEXTS:
            sheet = sheet_of(text)
            paper = made_paper(sheet)
            for line in paper:
                self.assertNotLet(sheet, made(sheet), paper + [line])
                self.assertNotLet(sheet, made(sheet), [line] + paper)
                self.assertNotLet(sheet, made(sheet), paper + [(line[0], 0, 0)])

    def test_each_head_changed(self):
        for text in TEXTS:
            sheet = sheet_of(text)
            heads, rows, paper = heads_of(made(sheet)), rows_of(made(sheet)), made_paper(sheet)
            for at, (start, params, boxes) in enumerate(heads):
                for head in ((start, params + 1, boxes), (start, params - 1, boxes), (start, params, boxes + 1),
                             (start, params, boxes - 1), (start, params + 1, boxes + 1)):
                    code = [len(heads)] + [number for one in heads[:at] + [head] + heads[at + 1:] for number in one]
                    code += [number for row in rows for number in row]
                    if is_code(code):
                        self.assertNotLet(sheet, code, paper)

    def test_a_function_more_or_less(self):
        for text in TEXTS:
            sheet = sheet_of(text)
            heads, rows, paper = heads_of(made(sheet)), rows_of(made(sheet)), made_paper(sheet)
            self.assertNotLet(sheet, code_of(heads + [(0, 0, 0)], rows), paper)
            if len(heads) > 1:
                # The calls lead elsewhere then, so that it is a code.
                rows = [(op, 0) if op == CALL else (op, number) for op, number in rows]
                self.assertNotLet(sheet, code_of(heads[:-1], rows), paper)

    def test_each_start_changed(self):
        for text in TEXTS:
            sheet = sheet_of(text)
            heads, rows, paper = heads_of(made(sheet)), rows_of(made(sheet)), made_paper(sheet)
            for at, (start, params, boxes) in enumerate(heads):
                for other in range(len(rows)):
                    code = code_of(heads[:at] + [(other, params, boxes)] + heads[at + 1:], rows)
                    due = second_meant(rows, other) == second_meant(rows, start)
                    self.assertIs(self.letting(sheet, code, paper), due)

    def test_each_row_left_out(self):
        # The jumps still lead to the same rows by number: the rows behind the one left out stand one ahead.
        for text in TEXTS:
            sheet = sheet_of(text)
            heads, rows, paper = heads_of(made(sheet)), rows_of(made(sheet)), made_paper(sheet)
            for at in range(len(rows)):
                for less in (0, 1):
                    fewer = [(op, number - less if op in (JUMP, UNLESS) and number > at else number)
                             for op, number in rows[:at] + rows[at + 1:]]
                    starts = [(start - (start > at), params, boxes) for start, params, boxes in heads]
                    code = [len(heads)] + [number for head in starts for number in head]
                    code += [number for row in fewer for number in row]
                    lines = [(place, begin - (begin > at), end - (end > at)) for place, begin, end in paper]
                    if is_code(code):
                        self.letting(sheet, code, paper)
                        self.letting(sheet, code, lines)
                        if rows[at][0] not in (JUMP, BACK):
                            self.assertNotLet(sheet, code, paper)

    def test_each_row_told_twice(self):
        for text in TEXTS:
            sheet = sheet_of(text)
            heads, rows, paper = heads_of(made(sheet)), rows_of(made(sheet)), made_paper(sheet)
            for at in range(len(rows)):
                more = [(op, number + 1 if op in (JUMP, UNLESS) and number > at else number)
                        for op, number in rows[:at + 1] + rows[at:]]
                starts = [(start + (start > at), params, boxes) for start, params, boxes in heads]
                lines = [(place, begin + (begin > at), end + (end > at)) for place, begin, end in paper]
                # A jump or a back told twice changes nothing; of a row that has one behind it, it is too much.
                told = self.letting(sheet, code_of(starts, more), lines)
                if rows[at][0] in (BACK, FAIL):
                    self.assertIs(told, True)
                elif rows[at][0] != JUMP:
                    self.assertIs(told, False, (text, at))

    def test_each_row_changed(self):
        others = [(PUSH, 0), (PUSH, 7), (PUSH, 5), (GET, 0), (GET, 1), (SET, 0), (SET, 1), (DROP, 0), (JUMP, 0),
                  (JUMP, 1), (UNLESS, 0), (UNLESS, 1), (CALL, 0), (BACK, 0), (FAIL, 0), (BREATH, 0), (PICK, 2),
                  (PICK, 3), (DO, 19)] + [(DO, kind) for kind in range(8, 20)]
        for text in TEXTS:
            sheet = sheet_of(text)
            heads, rows, paper = heads_of(made(sheet)), rows_of(made(sheet)), made_paper(sheet)
            for at, other in itertools.product(range(len(rows)), others):
                if other != rows[at] and other[1] < (len(rows) if other[0] in (JUMP, UNLESS) else SIXTY):
                    code = code_of(heads, rows[:at] + [other] + rows[at + 1:])
                    told = self.letting(sheet, code, paper)
                    if rows[at][0] != JUMP and other[0] != JUMP:
                        self.assertIs(told, False, (text, at, other))

    def test_each_number_of_a_row_changed(self):
        for text in TEXTS:
            sheet = sheet_of(text)
            heads, rows, paper = heads_of(made(sheet)), rows_of(made(sheet)), made_paper(sheet)
            for at, (op, number) in enumerate(rows):
                for other in list(range(len(rows))) if op in (JUMP, UNLESS) else [number - 1, number + 1, -number]:
                    bent = rows[:at] + [(op, other)] + rows[at + 1:]
                    code = [len(heads)] + [one for head in heads for one in head] + [one for row in bent for one in row]
                    if other != number and is_code(code):
                        told = self.letting(sheet, code, paper)
                        if op in (PUSH, GET, SET, CALL, DO, PICK):
                            self.assertIs(told, False, (text, at, other))

    def test_each_begin_and_end_changed(self):
        for text in TEXTS:
            sheet = sheet_of(text)
            code, paper = made(sheet), made_paper(sheet)
            rows = rows_of(code)
            for at, (place, begin, end) in enumerate(paper):
                is_fail = sheet[place] == KINDS["fail"]
                for other in range(-2, len(rows) + 3):
                    told = self.letting(sheet, code, paper[:at] + [(place, other, end)] + paper[at + 1:])
                    alike = 0 <= other < len(rows) and second_meant(rows, other) == second_meant(rows, begin)
                    self.assertIs(told, alike, (text, place, other))
                    told = self.letting(sheet, code, paper[:at] + [(place, begin, other)] + paper[at + 1:])
                    alike = 0 <= other < len(rows) and second_meant(rows, other) == second_meant(rows, end)
                    if not is_fail:
                        self.assertIs(told, alike, (text, place, other))

    def test_each_place_changed(self):
        for text in TEXTS:
            sheet = sheet_of(text)
            code, paper = made(sheet), made_paper(sheet)
            for at, (place, begin, end) in enumerate(paper):
                for other in range(-2, len(sheet) + 3):
                    if other != place:
                        self.assertNotLet(sheet, code, paper[:at] + [(other, begin, end)] + paper[at + 1:])
                        self.assertNotLet(sheet, code, paper + [(other, begin, end)])


class OtherCodes(Letting):
    """Codes written out by hand, each with its paper; where nothing else is told the body is that of function 0."""

    def told(self, text, rows, paper, boxes=2, start=0):
        sheet = sheet_of(f"fun m with {' '.join('kjihgfedcbal'[:boxes])} is {text}")
        code = code_of([(start, 0, boxes)], rows_in(rows))
        return self.letting(sheet, code, paper)

    def assertLetBy(self, text, rows, paper, boxes=2, start=0):
        self.assertIs(self.told(text, rows, paper, boxes, start), True, (text, rows, paper))

    def assertNotBy(self, text, rows, paper, boxes=2, start=0):
        self.assertIs(self.told(text, rows, paper, boxes, start), False, (text, rows, paper))

    def test_a_number(self):
        self.assertLetBy("7", "push 7, back", [(3, 0, 1)])
        self.assertNotBy("7", "push 8, back", [(3, 0, 1)])
        self.assertNotBy("7", "push -7, back", [(3, 0, 1)])
        self.assertNotBy("7", "get 0, back", [(3, 0, 1)])
        self.assertNotBy("7", "push 7, push 7, back", [(3, 0, 2)])
        self.assertNotBy("7", "push 7, fail", [(3, 0, 1)])
        for number in (0, -1, SIXTY, -SIXTY):
            self.assertLetBy(f"{number}", f"push {number}, back", [(3, 0, 1)])

    def test_a_body_that_ends_with_the_code(self):
        self.assertNotBy("7", "push 7", [(3, 0, 1)])
        self.assertNotBy("7", "back, push 7", [(3, 1, 2)], start=1)

    def test_jumps_put_between(self):
        self.assertLetBy("7", "jump 1, push 7, jump 3, back", [(3, 0, 2)])
        self.assertLetBy("7", "jump 1, push 7, jump 3, back", [(3, 1, 3)])
        self.assertLetBy("7", "jump 1, push 7, jump 3, back", [(3, 0, 3)], start=1)
        self.assertLetBy("7", "back, push 7, jump 0", [(3, 1, 0)], start=1)
        self.assertLetBy("7", "jump 2, back, push 7, jump 1", [(3, 2, 1)])
        self.assertNotBy("7", "jump 2, back, push 7, jump 1", [(3, 1, 1)])
        self.assertNotBy("7", "jump 2, back, push 7, jump 1", [(3, 2, 2)])

    def test_rows_that_nobody_comes_to(self):
        self.assertLetBy("7", "push 7, back, fail, drop, jump 4, unless 0, get 11, pick 12", [(3, 0, 1)])
        self.assertLetBy("7", "fail, push 7, back", [(3, 1, 2)], start=1)
        self.assertLetBy("7", "jump 3, push 8, back, push 7, jump 2", [(3, 3, 2)])

    def test_a_ring_in_the_place_of_a_row(self):
        self.assertNotBy("7", "jump 0, back", [(3, 0, 1)])
        self.assertNotBy("7", "jump 1, jump 0, push 7, back", [(3, 0, 3)])
        self.assertNotBy("7", "jump 1, jump 0, push 7, back", [(3, 2, 3)])
        self.assertNotBy("7", "push 7, jump 1, back", [(3, 0, 1)])
        self.assertNotBy("7", "push 7, jump 1, back", [(3, 0, 2)])
        self.assertNotBy("7", "push 7, jump 2, jump 1, back", [(3, 0, 2)])

    def test_rings_meet_nothing_not_even_themselves(self):
        # The part's end and the node's are the same row, but it is in a ring.
        self.assertNotBy("all 1 fail 1", "push 1, fail, jump 2, back", [(3, 0, 2), (5, 0, 2), (6, 0, 1)])
        self.assertNotBy("pick 2 k fail 1 fail 2",
                         "get 0, pick 2, jump 4, jump 6, push 1, fail, push 2, fail, jump 8, back",
                         [(3, 0, 8), (5, 0, 1), (7, 4, 8), (8, 4, 5), (10, 6, 8), (11, 6, 7)])
        self.assertLetBy("pick 2 k fail 1 fail 2",
                         "get 0, pick 2, jump 4, jump 6, push 1, fail, push 2, fail, jump 9, back",
                         [(3, 0, 8), (5, 0, 1), (7, 4, 8), (8, 4, 5), (10, 6, 9), (11, 6, 7)])
        self.assertNotBy("fail fail 1", "push 1, fail, jump 2, back", [(3, 0, 3), (4, 0, 2), (5, 0, 1)])
        # The start's ring too.
        self.assertNotBy("7", "push 7, back, jump 2", [(3, 2, 1)], start=2)

    def test_the_row_behind_the_last_one_meets_nothing(self):
        # A fail's own end may be the row behind the last one, but then nothing around it ends there.
        paper = [(3, 0, 8), (5, 0, 1), (7, 4, 8), (8, 4, 5), (10, 6, 8), (11, 6, 7)]
        rows = "get 0, pick 2, jump 4, jump 6, push 1, fail, push 2, fail"
        self.assertNotBy("pick 2 k fail 1 fail 2", rows, paper)
        self.assertNotBy("all 1 fail 1", "push 1, fail", [(3, 0, 2), (5, 0, 2), (6, 0, 1)])
        self.assertNotBy("fail 1", "push 1, fail", [(3, 0, 2), (4, 0, 1)])
        self.assertNotBy("pick 2 k 1 2", "get 0, pick 2, jump 4, push 2, push 1, back",
                         [(3, 0, 5), (5, 0, 1), (7, 4, 5), (9, 3, 5)])

    def test_get(self):
        self.assertLetBy("j", "get 1, back", [(3, 0, 1)])
        self.assertNotBy("j", "get 0, back", [(3, 0, 1)])
        self.assertNotBy("j", "set 1, back", [(3, 0, 1)])
        self.assertNotBy("j", "push 0, back", [(3, 0, 1)])
        self.assertNotBy("j", "get 1, get 1, back", [(3, 0, 2)])
        self.assertLetBy("j", "back, get 1, jump 0", [(3, 1, 0)], start=1)

    def test_set(self):
        self.assertLetBy("set j 4", "push 4, set 1, back", [(3, 0, 2), (5, 0, 1)])
        self.assertLetBy("set j 4", "jump 4, set 1, jump 6, fail, push 4, jump 1, back", [(3, 0, 2), (5, 4, 5)])
        self.assertNotBy("set j 4", "push 4, set 0, back", [(3, 0, 2), (5, 0, 1)])
        self.assertNotBy("set j 4", "push 4, get 1, back", [(3, 0, 2), (5, 0, 1)])
        self.assertNotBy("set j 4", "push 4, drop, push 4, set 1, back", [(3, 0, 4), (5, 2, 3)])
        self.assertNotBy("set j 4", "push 4, set 1, back", [(3, 0, 2), (5, 0, 2)])
        self.assertNotBy("set j 4", "push 4, set 1, back", [(3, 1, 2), (5, 0, 1)])
        self.assertNotBy("set j 4", "push 4, set 1, set 1, back", [(3, 0, 3), (5, 0, 1)])
        self.assertNotBy("set j 4", "push 4, set 1, back", [(3, 0, 2)])

    def test_all(self):
        paper = [(3, 0, 5), (5, 0, 1), (7, 2, 3), (9, 4, 5)]
        self.assertLetBy("all 3 4 j 6", "push 4, drop, get 1, drop, push 6, back", paper)
        self.assertNotBy("all 3 4 j 6", "push 4, drop, get 1, set 0, push 6, back", paper)
        self.assertNotBy("all 3 4 j 6", "push 4, drop, get 1, drop, push 7, back", paper)
        self.assertNotBy("all 3 4 j 6", "get 1, drop, push 4, drop, push 6, back", paper)
        # The parts' rows in another order, with jumps between.
        self.assertLetBy("all 3 4 j 6", "push 6, back, get 1, drop, jump 0, push 4, drop, jump 2",
                         [(3, 5, 1), (5, 5, 6), (7, 2, 3), (9, 0, 1)], start=5)
        self.assertNotBy("all 3 4 j 6", "push 6, back, get 1, drop, jump 1, push 4, drop, jump 2",
                         [(3, 5, 1), (5, 5, 6), (7, 2, 3), (9, 0, 1)], start=5)
        # A drop too much, and one that comes behind another row.
        self.assertNotBy("all 2 4 5", "push 4, drop, drop, push 5, back", [(3, 0, 4), (5, 0, 1), (7, 3, 4)])
        self.assertNotBy("all 2 4 5", "push 4, push 5, back", [(3, 0, 2), (5, 0, 1), (7, 1, 2)])
        self.assertNotBy("all 2 4 5", "push 4, drop, push 5, drop, back", [(3, 0, 4), (5, 0, 1), (7, 2, 3)])
        self.assertLetBy("all 1 4", "push 4, back", [(3, 0, 1), (5, 0, 1)])
        self.assertNotBy("all 1 4", "push 4, back", [(3, 0, 1)])
        self.assertNotBy("all 1 4", "push 4, back", [(5, 0, 1)])

    def test_rows_ahead_of_the_first_part(self):
        # The node begins at rows that its first part hasn't: whatever they do, it isn't right then.
        self.assertNotBy("all 2 4 5", "new, drop, push 4, drop, push 5, back", [(3, 0, 5), (5, 2, 3), (7, 4, 5)])
        self.assertNotBy("set k 4", "new, drop, push 4, set 0, back", [(3, 0, 4), (5, 2, 3)])
        self.assertNotBy("pick 2 k 4 4", "new, drop, get 0, pick 2, push 4, jump 6, push 4, back",
                         [(3, 0, 6), (5, 2, 3), (7, 4, 5), (9, 6, 7)])
        self.assertNotBy("pick 2 k 4 5", "new, drop, get 0, pick 2, jump 6, jump 8, push 4, jump 9, push 5, back",
                         [(3, 0, 9), (5, 2, 3), (7, 6, 7), (9, 8, 9)])
        self.assertNotBy("loop k 4", "new, drop, breath, get 0, unless 8, push 4, drop, jump 2, push 0, back",
                         [(3, 0, 9), (4, 3, 4), (6, 5, 6)])
        self.assertNotBy("fail k", "new, drop, get 0, fail, back", [(3, 0, 4), (4, 2, 3)])
        self.assertNotBy("size k", "new, drop, get 0, size, back", [(3, 0, 4), (4, 2, 3)])
        self.assertNotBy("new", "push 1, drop, new, back", [(3, 0, 3)])
        self.assertNotBy("k", "push 1, drop, get 0, back", [(3, 0, 3)])

    def test_rows_behind_the_last_part(self):
        self.assertNotBy("all 2 4 5", "push 4, drop, push 5, set 0, back", [(3, 0, 4), (5, 0, 1), (7, 2, 3)])
        self.assertNotBy("set k 4", "push 4, set 0, set 1, back", [(3, 0, 3), (5, 0, 1)])
        self.assertNotBy("loop k 4", "breath, get 0, unless 6, push 4, drop, jump 0, push 0, set 0, back",
                         [(3, 0, 8), (4, 1, 2), (6, 3, 4)])
        self.assertNotBy("size k", "get 0, size, set 0, back", [(3, 0, 3), (4, 0, 1)])
        self.assertNotBy("k", "get 0, set 1, back", [(3, 0, 2)])
        self.assertNotBy("pick 2 k 4 5", "get 0, pick 2, jump 4, jump 6, push 4, jump 7, push 5, set 0, back",
                         [(3, 0, 8), (5, 0, 1), (7, 4, 5), (9, 6, 7)])

    def test_all_of_fixed_parts_is_not_fixed(self):
        self.assertNotBy("all 2 4 5", "push 5, back", [(3, 0, 1), (5, 0, 1), (7, 0, 1)])
        self.assertNotBy("all 1 4", "push 4, back", [(3, 0, 1)])

    def test_two_like_parts_may_share_no_rows_in_all(self):
        # Both parts would be the same rows: then drop leads on to both.
        self.assertNotBy("all 2 k k", "get 0, drop, jump 0, back", [(3, 0, 3), (5, 0, 1), (7, 0, 1)])
        self.assertNotBy("all 2 k k", "get 0, back", [(3, 0, 1), (5, 0, 1), (7, 0, 1)])

    def test_pick(self):
        paper = [(3, 0, 7), (5, 0, 1), (7, 4, 5), (9, 6, 7)]
        self.assertLetBy("pick 2 k 4 5", "get 0, pick 2, jump 4, jump 6, push 4, jump 7, push 5, back", paper)
        self.assertNotBy("pick 2 k 4 5", "get 0, pick 2, jump 6, jump 4, push 4, jump 7, push 5, back", paper)
        self.assertNotBy("pick 2 k 4 5", "get 0, pick 3, jump 4, jump 6, push 4, jump 7, push 5, back", paper)
        self.assertNotBy("pick 2 k 4 5", "get 0, unless 2, jump 4, jump 6, push 4, jump 7, push 5, back", paper)
        self.assertNotBy("pick 2 k 4 5", "get 1, pick 2, jump 4, jump 6, push 4, jump 7, push 5, back", paper)
        self.assertNotBy("pick 2 k 4 5", "get 0, pick 2, jump 4, jump 6, push 4, jump 6, push 5, back", paper)
        # The parts' begins may be the jumps themselves, and their ends a jump too.
        self.assertLetBy("pick 2 k 4 5", "get 0, pick 2, jump 4, jump 6, push 4, jump 7, push 5, back",
                         [(3, 0, 5), (5, 0, 1), (7, 2, 7), (9, 3, 5)])

    def test_a_part_that_begins_right_behind_pick(self):
        # The last part needs no jump of its own; one ahead of it does, or it would go on into the next one's.
        self.assertLetBy("pick 2 k 4 5", "get 0, pick 2, jump 5, push 5, back, push 4, jump 4",
                         [(3, 0, 4), (5, 0, 1), (7, 5, 4), (9, 3, 4)])
        for end in (3, 4):
            self.assertNotBy("pick 2 k 4 5", "get 0, pick 2, push 4, push 5, back",
                             [(3, 0, 4), (5, 0, 1), (7, 2, end), (9, 3, 4)])

    def test_parts_of_a_pick_that_share_rows(self):
        self.assertLetBy("pick 3 k 4 4 5", "get 0, pick 3, jump 5, jump 5, jump 7, push 4, back, push 5, jump 6",
                         [(3, 0, 6), (5, 0, 1), (7, 5, 6), (9, 5, 6), (11, 7, 8)])
        self.assertNotBy("pick 3 k 4 6 5", "get 0, pick 3, jump 5, jump 5, jump 7, push 4, back, push 5, jump 6",
                         [(3, 0, 6), (5, 0, 1), (7, 5, 6), (9, 5, 6), (11, 7, 8)])

    def test_pick_is_of_its_how_many_rows(self):
        rows = "get 0, pick {}, jump 5, jump 7, jump 9, push 4, jump 10, push 5, jump 10, push 6, back"
        paper = [(3, 0, 10), (5, 0, 1), (7, 5, 6), (9, 7, 8), (11, 9, 10)]
        for many in range(2, 13):
            self.assertIs(self.told("pick 3 k 4 5 6", rows.format(many), paper), many == 3)

    def test_the_rows_behind_pick_are_counted_as_they_stand(self):
        # The second part begins where the second row behind pick leads, not behind where the first leads.
        self.assertNotBy("pick 2 k 4 5", "get 0, pick 2, jump 4, jump 4, push 4, push 5, back",
                         [(3, 0, 6), (5, 0, 1), (7, 4, 6), (9, 5, 6)])
        # A jump between pick and its rows isn't one of them.
        self.assertNotBy("pick 2 k 4 5", "get 0, pick 2, jump 3, jump 5, jump 7, push 4, jump 8, push 5, back",
                         [(3, 0, 8), (5, 0, 1), (7, 5, 6), (9, 7, 8)])

    def test_pick_rows_behind_the_last_row(self):
        paper = [(3, 4, 1), (5, 4, 5), (7, 0, 1), (9, 2, 3)]
        self.assertLetBy("pick 2 k 4 5", "push 4, back, push 5, jump 1, get 0, pick 2, jump 0, jump 2", paper, start=4)
        self.assertNotBy("pick 2 k 4 5", "push 4, back, push 5, jump 1, get 0, pick 2, jump 0", paper, start=4)
        self.assertNotBy("pick 2 k 4 5", "push 4, back, push 5, jump 1, get 0, pick 2", paper, start=4)

    def test_a_pick_that_is_done_ahead(self):
        for value, box in ((0, "k"), (1, "j"), (2, "i"), (3, "i"), (-1, "i"), (SIXTY, "i"), (-SIXTY, "i")):
            for at, name in enumerate("kji"):
                # Places: 3 pick, 5 its first part, 7, 9, 11 the others.
                self.assertIs(
                    self.told(f"pick 3 {value} k j i", f"get {at}, back", [(3, 0, 1), (7 + 2 * at, 0, 1)], 3),
                    name == box)

    def test_a_pick_that_is_done_ahead_by_what_is_reckoned(self):
        text = "pick 2 sub 2 less 1 2 k j"
        # Places: 3 pick, 5 sub, 6 number, 8 less, 9, 11 numbers, 13 k, 15 j.
        self.assertLetBy(text, "get 1, back", [(3, 0, 1), (15, 0, 1)])
        self.assertNotBy(text, "get 0, back", [(3, 0, 1), (13, 0, 1)])
        self.assertNotBy(text.replace("sub 2", "quo 2").replace("less 1 2", "less 2 1"), "get 1, back",
                         [(3, 0, 1), (15, 0, 1)])

    def test_a_pick_that_is_done_ahead_begins_and_ends_as_its_part(self):
        text = "pick 2 0 k j"
        self.assertLetBy(text, "get 0, jump 2, back", [(3, 0, 1), (7, 0, 2)])
        self.assertNotBy(text, "get 0, back, get 0, jump 1", [(3, 0, 1), (7, 2, 3)])
        self.assertNotBy(text, "get 0, back, get 0, back", [(3, 0, 3), (7, 0, 1)])
        self.assertNotBy(text, "get 0, back", [(3, 0, 1)])
        self.assertNotBy(text, "get 0, back", [(7, 0, 1)])
        # Nodes that aren't done may be in the paper, anywhere.
        self.assertLetBy(text, "get 0, back", [(3, 0, 1), (5, 1, 2), (7, 0, 1), (9, 1, 0)])

    def test_a_pick_with_a_fixed_first_part_in_full(self):
        rows = "push 1, pick 2, jump 4, jump 6, get 0, jump 7, get 1, back"
        self.assertLetBy("pick 2 1 k j", rows, [(3, 0, 7), (5, 0, 1), (7, 4, 5), (9, 6, 7)])
        self.assertNotBy("pick 2 1 k j", rows, [(3, 0, 7), (5, 0, 1), (9, 6, 7)])

    def test_a_pick_whose_first_part_is_not_fixed_is_not_done_ahead(self):
        self.assertNotBy("pick 2 all 1 0 k j", "get 0, back", [(3, 0, 1), (5, 0, 1), (7, 0, 1), (9, 0, 1)])
        self.assertNotBy("pick 2 quo 0 0 k j", "get 1, back", [(3, 0, 1), (10, 0, 1), (12, 0, 1)])

    def test_loop(self):
        text, paper = "loop k set k 4", [(3, 0, 8), (4, 1, 2), (6, 3, 5), (8, 3, 4)]
        rows = "breath, get 0, unless 7, push 4, set 0, drop, jump 0, push 0, back"
        self.assertLetBy(text, rows, paper)
        for other in ("push 1", "push -1", "get 1", "breath", "new"):
            self.assertNotBy(text, rows.replace("push 0", other), paper)
        for other in ("drop", "push 0", "jump 1", "get 0"):
            self.assertNotBy(text, rows.replace("breath", other), paper)
        self.assertNotBy(text, rows.replace("drop", "set 1"), paper)
        self.assertNotBy(text, rows.replace("jump 0", "jump 1"), paper)
        self.assertNotBy(text, rows.replace("unless 7", "unless 8"), paper)
        self.assertNotBy(text, rows.replace("unless 7", "unless 3"), paper)
        self.assertNotBy(text, rows.replace("unless 7", "jump 3"), paper)

    def test_a_loops_rows_elsewhere(self):
        # The way out by a jump, and the rows in another order.
        rows = "push 0, back, get 1, drop, jump 8, unless 7, jump 2, jump 0, breath, get 0, jump 5"
        self.assertLetBy("loop k j", rows, [(3, 8, 1), (4, 9, 10), (6, 2, 3)], start=8)
        # The first part may begin at a jump that breath is ahead of.
        self.assertLetBy("loop k j", "breath, jump 2, get 0, unless 7, get 1, drop, jump 0, push 0, back",
                         [(3, 0, 8), (4, 1, 3), (6, 4, 5)])
        # Around to a row ahead that is no breath.
        self.assertNotBy("loop k j", "new, breath, get 0, unless 7, get 1, drop, jump 0, push 0, back",
                         [(3, 1, 8), (4, 2, 3), (6, 4, 5)], start=1)

    def test_a_ring_where_unless_leads(self):
        self.assertNotBy("loop k j", "breath, get 0, unless 7, get 1, drop, jump 0, back, jump 7",
                         [(3, 0, 6), (4, 1, 2), (6, 3, 4)])
        self.assertNotBy("loop k j", "breath, get 0, unless 6, get 1, drop, jump 0, push 0",
                         [(3, 0, 7), (4, 1, 2), (6, 3, 4)])

    def test_a_loop_whose_first_part_fails(self):
        # Fail's end may be any, but the loop wants unless there.
        rows = "breath, get 0, fail, unless 7, get 1, drop, jump 0, push 0, back, jump 9"
        for end in range(11):
            told = self.told("loop fail k j", rows, [(3, 0, 8), (4, 1, end), (5, 1, 2), (7, 4, 5)])
            self.assertIs(told, end == 3, end)

    def test_loops_parts_in_the_paper(self):
        paper = [(3, 0, 7), (4, 1, 2), (6, 3, 4)]
        rows = "breath, get 0, unless 6, get 1, drop, jump 0, push 0, back"
        self.assertLetBy("loop k j", rows, paper)
        for at in range(3):
            self.assertNotBy("loop k j", rows, paper[:at] + paper[at + 1:])
        self.assertNotBy("loop k j", rows.replace("get 0", "get 1"), paper)
        self.assertNotBy("loop k j", rows.replace("get 1", "get 0"), paper)

    def test_a_loop_whose_first_part_is_0_is_not_fixed(self):
        self.assertNotBy("loop 0 1", "push 0, back", [(3, 0, 1), (4, 0, 1), (6, 0, 1)])

    def test_fail(self):
        self.assertLetBy("fail k", "get 0, fail, back", [(3, 0, 2), (4, 0, 1)])
        self.assertNotBy("fail k", "get 0, back", [(3, 0, 1), (4, 0, 1)])
        self.assertNotBy("fail k", "get 1, fail, back", [(3, 0, 2), (4, 0, 1)])
        self.assertNotBy("fail k", "get 0, fail, back", [(3, 0, 2)])
        self.assertNotBy("fail k", "get 0, fail, back", [(3, 1, 2), (4, 0, 1)])
        self.assertNotBy("fail k", "new, get 0, fail, back", [(3, 0, 3), (4, 1, 2)])

    def test_fails_own_end_may_be_any(self):
        # As a body its end is at back, wherever that stands.
        for end in range(7):
            told = self.told("fail k", "get 0, fail, push 4, back, jump 3, jump 5", [(3, 0, end), (4, 0, 1)])
            self.assertIs(told, end in (3, 4))
        # In all its end is where drop stands, though nobody comes there from fail.
        for end in range(8):
            told = self.told("all 2 fail k 4", "get 0, fail, jump 6, push 4, back, jump 6, drop, jump 3",
                             [(3, 0, 4), (5, 0, end), (6, 0, 1), (8, 3, 4)])
            self.assertIs(told, end in (2, 5, 6))
        # As a node that is not looked at it may be the row behind the last one.
        self.assertLetBy("pick 2 1 fail k j", "get 1, back", [(3, 0, 1), (7, 0, 2), (8, 0, 2), (10, 0, 1)])

    def test_fails_end_is_a_row_all_the_same(self):
        for end in (-1, 5, 6, SIXTY, -SIXTY, None, True):
            self.assertNotBy("fail k", "get 0, fail, push 4, back", [(3, 0, end), (4, 0, 1)])

    def test_deeds(self):
        self.assertLetBy("sub k j", "get 0, get 1, sub, back", [(3, 0, 3), (4, 0, 1), (6, 1, 2)])
        self.assertNotBy("sub k j", "get 1, get 0, sub, back", [(3, 0, 3), (4, 1, 2), (6, 0, 1)])
        self.assertNotBy("sub k j", "get 0, get 1, add, back", [(3, 0, 3), (4, 0, 1), (6, 1, 2)])
        self.assertNotBy("add k k", "get 0, add, back", [(3, 0, 2), (4, 0, 1), (6, 0, 1)])
        self.assertLetBy("put 1 k j", "push 1, jump 3, back, get 0, get 1, put, jump 2",
                         [(3, 0, 2), (4, 0, 1), (6, 1, 4), (8, 4, 5)])
        self.assertLetBy("size k", "get 0, size, back", [(3, 0, 2), (4, 0, 1)])
        self.assertLetBy("new", "new, back", [(3, 0, 1)])
        self.assertLetBy("new", "back, new, jump 0", [(3, 1, 2)], start=1)
        self.assertNotBy("new", "push 2, back", [(3, 0, 1)])
        self.assertNotBy("new", "new, drop, new, back", [(3, 0, 3)])

    def test_what_is_fixed_by_its_value(self):
        self.assertLetBy("add 2 3", "push 5, back", [(3, 0, 1)])
        self.assertLetBy("add 2 3", "push 2, push 3, add, back", [(3, 0, 3), (4, 0, 1), (6, 1, 2)])
        self.assertLetBy("add 2 3", "push 5, back", [(3, 0, 1), (4, 1, 2), (6, 0, 0)])
        self.assertNotBy("add 2 3", "push 6, back", [(3, 0, 1)])
        self.assertNotBy("add 2 3", "push 5, back", [(4, 0, 1), (6, 0, 1)])
        self.assertNotBy("add 2 3", "push 2, push 3, add, back", [(3, 0, 3)])
        for text, value in (("sub 2 3", -1), ("mul 2 3", 6), ("quo -7 2", -4), ("rest -7 2", 1), ("less 2 3", 1),
                            ("same 2 3", 0), ("add mul 2 3 quo 9 2", 10)):
            self.assertLetBy(text, f"push {value}, back", [(3, 0, 1)])
            self.assertNotBy(text, f"push {value + 1}, back", [(3, 0, 1)])

    def test_a_fixed_part_of_a_node(self):
        self.assertLetBy("add k mul 2 3", "get 0, push 6, add, back", [(3, 0, 3), (4, 0, 1), (6, 1, 2)])
        self.assertLetBy("set k less 1 2", "push 1, set 0, back", [(3, 0, 2), (5, 0, 1)])
        self.assertLetBy("fail mul 5 5", "push 25, fail, back", [(3, 0, 2), (4, 0, 1)])

    def test_what_faults_is_not_fixed(self):
        for value in (0, 1, -1):
            self.assertNotBy("quo 1 0", f"push {value}, back", [(3, 0, 1)])
            self.assertNotBy("rest 1 0", f"push {value}, back", [(3, 0, 1)])
        self.assertLetBy("quo 1 0", "push 1, push 0, quo, back", [(3, 0, 3), (4, 0, 1), (6, 1, 2)])
        great = 10 ** 55
        self.assertNotBy(f"mul {great} {great}", "push 0, back", [(3, 0, 1)])
        self.assertLetBy(f"mul {great} {great // 10 ** 11}", f"push {10 ** 99}, back", [(3, 0, 1)])

    def test_calls(self):
        sheet = sheet_of("fun m with is call f 4 5 fun f a b with is sub a b fun g a b with is 0")
        # Places: 7 call, 9 and 11 numbers; 13 sub, 14 and 16 gets; 18 number.
        heads = [(0, 0, 0), (4, 2, 2), (8, 2, 2)]
        rows = rows_in("push 4, push 5, call 0, back, get 0, get 1, sub, back, push 0, back")
        paper = [(7, 0, 3), (9, 0, 1), (11, 1, 2), (13, 4, 7), (14, 4, 5), (16, 5, 6), (18, 8, 9)]
        for function in range(3):
            rows[2] = (CALL, function)
            self.assertIs(self.letting(sheet, code_of(heads, rows), paper), function == 1)
        rows[2] = (CALL, 1)
        # Each function's start meets its own body's begin; back may be shared.
        self.assertNotLet(sheet, code_of([heads[0], heads[2], heads[1]], rows), paper)
        self.assertLet(sheet, code_of(heads, rows[:9] + [(JUMP, 3)]), paper)

    def test_each_functions_body(self):
        sheet = sheet_of("fun m with is 1 fun f with is 2 fun g with is 3")
        heads, rows = [(0, 0, 0), (2, 0, 0), (4, 0, 0)], rows_in("push 1, back, push 2, back, push 3, back")
        paper = [(7, 0, 1), (9, 2, 3), (11, 4, 5)]
        self.assertLet(sheet, code_of(heads, rows), paper)
        for at in range(3):
            self.assertNotLet(sheet, code_of(heads, rows), paper[:at] + paper[at + 1:])
            bent = list(rows)
            bent[2 * at] = (PUSH, 7)
            self.assertNotLet(sheet, code_of(heads, bent), paper)
            bent = list(rows)
            bent[2 * at + 1] = (FAIL, 0)
            self.assertNotLet(sheet, code_of(heads, bent), paper)
            bent[2 * at + 1] = (JUMP, 2 * at + 1)
            self.assertNotLet(sheet, code_of(heads, bent), paper)

    def test_bodies_that_share_rows(self):
        sheet = sheet_of("fun m with is 4 fun f with is 4")
        self.assertLet(sheet, code_of([(0, 0, 0), (0, 0, 0)], rows_in("push 4, back")), [(5, 0, 1), (7, 0, 1)])
        sheet = sheet_of("fun m with is 4 fun f with is 5")
        self.assertNotLet(sheet, code_of([(0, 0, 0), (0, 0, 0)], rows_in("push 4, back")), [(5, 0, 1), (7, 0, 1)])
        # Two functions may end at one back, though their boxes are unlike.
        sheet = sheet_of("fun m with k is k fun f a b with is b")
        code = code_of([(0, 0, 1), (2, 2, 2)], rows_in("get 0, back, get 1, jump 1"))
        self.assertLet(sheet, code, [(5, 0, 1), (7, 2, 1)])


class OfAnything(Letting):
    SHEET = sheet_of("fun m with k is set k 4")
    CODE = made(SHEET)
    PAPER = [(3, 0, 2), (5, 0, 1)]

    def assertNot(self, paper):
        self.assertIs(lets_by(self.SHEET, self.CODE, paper), False, paper)

    def test_the_paper_itself(self):
        self.assertEqual(self.PAPER, made_paper(self.SHEET))
        self.assertLet(self.SHEET, self.CODE, self.PAPER)

    def test_papers_that_are_no_lists(self):
        for paper in (None, True, False, 0, 1, -1, 7, 1.5, "", "paper", b"", (), {}, set(), object(), int,
                      tuple(self.PAPER), dict(enumerate(self.PAPER)), {line: True for line in self.PAPER},
                      set(self.PAPER), iter(self.PAPER), range(3), lambda: self.PAPER, frozenset(self.PAPER)):
            self.assertNot(paper)

    def test_lines_that_are_no_tuples_of_three_whole_numbers(self):
        lines = [None, True, 0, 7, -1, 1.5, "", "abc", "352", b"abc", [], (), {}, set(), object(), [5, 0, 1], (5,),
                 (5, 0), (5, 0, 1, 0), (5, 0, 1, 5, 0, 1), ((5, 0, 1),), [(5, 0, 1)], {5: 0, 0: 1, 1: 2}, range(3),
                 (5, 0, None), (5, None, 1), (None, 0, 1), (5, 0, True), (5, False, 1), (True, 0, 1), (5.0, 0, 1),
                 (5, 0.0, 1), (5, 0, 1.0), ("5", 0, 1), (5, "0", 1), (5, 0, "1"), (5, 0, [1]), ([5], 0, 1), (5, (), 1),
                 (5, 0, float("nan")), ({}, 0, 1), ([], [], [])]
        for line in lines:
            self.assertNot([self.PAPER[0], line])
            self.assertNot([line, self.PAPER[0]])
            self.assertNot(self.PAPER + [line])
            self.assertNot([line] + self.PAPER)
            self.assertNot([line])

    def test_truths_in_the_place_of_numbers(self):
        for at, line in enumerate(self.PAPER):
            for place in range(3):
                if line[place] in (0, 1):
                    bent = line[:place] + (bool(line[place]),) + line[place + 1:]
                    self.assertEqual(bent, line)
                    self.assertNot(self.PAPER[:at] + [bent] + self.PAPER[at + 1:])

    def test_lists_in_the_place_of_tuples(self):
        self.assertNot([list(line) for line in self.PAPER])
        self.assertNot([self.PAPER[0], list(self.PAPER[1])])

    def test_a_paper_within_itself(self):
        paper = list(self.PAPER)
        paper.append(paper)
        self.assertNot(paper)

    def test_bounds_of_a_node_that_is_not_looked_at(self):
        # Rows: 0 get, 1 back. Node 9 isn't done: its line is in the paper, anywhere within bounds.
        sheet = sheet_of("fun m with k j is pick 2 0 k j")
        code = code_of([(0, 0, 2)], rows_in("get 0, back"))
        paper = [(3, 0, 1), (7, 0, 1)]
        for begin in (-SIXTY, -2, -1, 0, 1, 2, 3, SIXTY):
            for end in (-SIXTY, -2, -1, 0, 1, 2, 3, SIXTY):
                due = 0 <= begin <= 1 and 0 <= end <= 2
                self.assertIs(self.letting(sheet, code, paper + [(9, begin, end)]), due, (begin, end))
                self.assertIs(self.letting(sheet, code, [(9, begin, end)] + paper), due, (begin, end))

    def test_places_of_nodes_alone(self):
        sheet = sheet_of("fun m with k j is pick 2 0 k j")
        code = code_of([(0, 0, 2)], rows_in("get 0, back"))
        for place in list(range(-12, 13)) + [SIXTY, -SIXTY]:
            due = place in (5, 9)
            self.assertIs(self.letting(sheet, code, [(3, 0, 1), (7, 0, 1), (place, 0, 1)]), due, place)

    def test_no_place_twice(self):
        sheet = sheet_of("fun m with k j is pick 2 0 k j")
        code = code_of([(0, 0, 2)], rows_in("get 0, back"))
        paper = [(3, 0, 1), (7, 0, 1), (9, 0, 1)]
        self.assertLet(sheet, code, paper)
        for place in (3, 7, 9):
            for end in (0, 1, 2):
                self.assertNotLet(sheet, code, paper + [(place, 0, end)])


class Refused(Letting):
    NO_SHEETS = ([], [0], [1, 0, 0, 20], [1, 0, 0, 19, 19], [1, 0, 0] + [18] * 10, [1, 0, 0, 8, 19])
    NO_CODES = (None, 7, "", [], [1, 0, 0, 0], [1, 0, 0, 0, 7], [1, 0, 0, 0, 12, 0], (1, 0, 0, 0, 7, 0),
                [1, 0, 1, 1, 7, 0])

    def assertRefused(self, refusal, *handed):
        with self.assertRaises(refusal, msg=handed) as caught:
            lets_by(*handed)
        self.assertIsInstance(caught.exception, ChainError)
        return caught.exception

    def test_no_sheet_ahead_of_all(self):
        for sheet in self.NO_SHEETS:
            for code in self.NO_CODES + ([1, 0, 0, 0, 0, 7, 7, 0],):
                for paper in (None, [], [(3, 0, 1)], 7):
                    refusal = self.assertRefused(NoSheet, sheet, code, paper)
                    self.assertEqual((refusal.place, refusal.word), wrong(sheet))

    def test_no_code_ahead_of_the_paper(self):
        for code in self.NO_CODES:
            for paper in (None, [], [(3, 0, 1)], 7):
                self.assertRefused(NoCode, [1, 0, 0, 0, 7], code, paper)
                # Of a sheet of another number of functions too.
                self.assertRefused(NoCode, [2, 0, 0, 0, 0, 19, 19], code, paper)

    def test_the_made_things_are_not_refused(self):
        self.assertLet([1, 0, 0, 0, 7], [1, 0, 0, 0, 0, 7, 7, 0], [(3, 0, 1)])


class Elsewhere:
    """A code of a sheet whose rows stand anywhere, with jumps between and rows that nobody comes to, and its paper.

    What is done is written as units: (label, rows, label of what comes then or None), a label standing for a row. In
    the rows it stands for the number of a jump or an unless.
    """

    def __init__(self, dice, told):
        self.dice = dice
        self.units, self.spans, self.labels = {}, {}, itertools.count()
        heads = []
        for params, boxes, body in told:
            start, end = self.label(), self.label()
            self.write(body, start, end)
            self.units[end] = ([(BACK, 0)], None)
            heads.append((start, params, boxes))
        for turn in range(dice.randrange(4)):
            self.units[self.label()] = ([dice.choice([(FAIL, 0), (DROP, 0), (PUSH, 5), (BREATH, 0)])], None)
        self.lay()
        self.heads = [(self.row(start), params, boxes) for start, params, boxes in heads]
        self.code = code_of(self.heads, self.rows)
        self.paper = []
        for place, (begin, end) in self.spans.items():
            own = dice.randint(0, len(self.rows)) if end is None else self.row(end)
            self.paper.append((place, self.row(begin), own))
        dice.shuffle(self.paper)

    def label(self):
        return f"label {next(self.labels)}"

    def write(self, node, begin, end):
        kind, place, own, parts = node
        self.spans[place] = (begin, end)
        value = second_fixed(node)
        if value is not None and (kind == 0 or self.dice.random() < 0.5):
            self.units[begin] = ([(PUSH, value)], end)
        elif kind == 4 and second_fixed(parts[0]) is not None and self.dice.random() < 0.5:
            value = second_fixed(parts[0])
            self.write(parts[1:][value if value in range(own[0]) else -1], begin, end)
        elif kind == 4:
            pick, begins = self.label(), [self.label() for part in parts[1:]]
            self.write(parts[0], begin, pick)
            self.units[pick] = ([(PICK, own[0])] + [(JUMP, other) for other in begins], None)
            for part, other in zip(parts[1:], begins):
                self.write(part, other, end)
        elif kind == 5:
            first, unless, second, drop, out = [self.label() for label in range(5)]
            self.units[begin] = ([(BREATH, 0)], first)
            self.write(parts[0], first, unless)
            self.units[unless] = ([(UNLESS, out)], second)
            self.write(parts[1], second, drop)
            self.units[drop] = ([(DROP, 0)], begin)
            self.units[out] = ([(PUSH, 0)], end)
        else:
            self.write_in_a_row(node, begin, end)

    def write_in_a_row(self, node, begin, end):
        kind, place, own, parts = node
        at = begin
        for number, part in enumerate(parts):
            behind = end if kind == 3 and number == len(parts) - 1 else self.label()
            self.write(part, at, behind)
            at = behind
            if kind == 3 and at != end:
                following = self.label()
                self.units[at] = ([(DROP, 0)], following)
                at = following
        if kind != 3:
            op = {1: GET, 2: SET, 6: CALL, 7: FAIL}.get(kind, DO)
            self.units[at] = ([(op, own[0] if own else kind if op == DO else 0)], None if kind == 7 else end)

    def lay(self):
        """Units in any order, but a unit often stands behind the one that it comes after; jumps where it doesn't."""
        self.rows, self.at = [], {}
        waiting = list(self.units)
        self.dice.shuffle(waiting)
        while waiting:
            label = waiting.pop()
            while label is not None:
                rows, following = self.units[label]
                self.at.setdefault(label, []).append(len(self.rows))
                self.rows += rows
                label = None
                if following in waiting and self.dice.random() < 0.6:
                    waiting.remove(following)
                    label = following
                if following is not None and (label is None or self.dice.random() < 0.2):
                    # This jump stands for what it leads to, as well as the row itself.
                    self.at.setdefault(following, []).append(len(self.rows))
                    self.rows.append((JUMP, following))
        own = {label: [at for at in self.at[label] if self.rows[at] != (JUMP, label)][0] for label in self.units}
        for at, (op, number) in enumerate(self.rows):
            if isinstance(number, str):
                # A jump that stands for a label leads to its own row, so that none leads round in a ring.
                self.rows[at] = (op, own[number] if at in self.at[number] else self.row(number))

    def row(self, label):
        return self.dice.choice(self.at[label])


class CodesElsewhere(Letting):
    def elsewhere(self, seed, many):
        dice = random.Random(seed)
        found = 0
        while found < many:
            for sheet, told in random_programs(dice, 20, small_number):
                if len(sheet) < 90:
                    found += 1
                    yield sheet, told, Elsewhere(dice, told), dice

    def test_let_by(self):
        for sheet, told, other, dice in self.elsewhere(27, 400):
            self.assertLet(sheet, other.code, other.paper)

    def test_the_texts_of_all_kinds(self):
        dice = random.Random(28)
        for text in TEXTS:
            sheet = sheet_of(text)
            for turn in range(10):
                other = Elsewhere(dice, functions(sheet))
                self.assertLet(sheet, other.code, other.paper)

    def test_bent_anywhere(self):
        """A number of the code, or of a line, changed at random: as a second one tells, and then as the runner does."""
        words = {True: 0, False: 0}
        for sheet, told, other, dice in self.elsewhere(29, 300):
            for turn in range(12):
                code, paper = list(other.code), list(other.paper)
                if dice.random() < 0.5:
                    at = dice.randrange(len(code))
                    code[at] = dice.choice((code[at] - 1, code[at] + 1, dice.randrange(20), dice.randrange(len(code))))
                else:
                    at = dice.randrange(len(paper))
                    line = list(paper[at])
                    line[dice.randrange(3)] = dice.choice((dice.randrange(len(other.rows) + 1), dice.choice(paper)[0]))
                    paper[at] = tuple(line)
                if is_code(code):
                    words[self.letting(sheet, code, paper)] += 1
        self.assertGreater(words[True], 100)
        self.assertGreater(words[False], 1000)

    def test_lines_left_out(self):
        words = {True: 0, False: 0}
        for sheet, told, other, dice in self.elsewhere(30, 150):
            for line in other.paper:
                words[self.letting(sheet, other.code, [one for one in other.paper if one != line])] += 1
        # Elsewhere tells of no node that isn't looked at: so all are needed.
        self.assertEqual(words[True], 0)
        self.assertGreater(words[False], 1000)

    def test_other_nodes_left_in(self):
        added = 0
        for sheet, told, other, dice in self.elsewhere(31, 200):
            places = [line[0] for line in other.paper]
            paper = list(other.paper)
            for node in nodes(sheet):
                if node[1] not in places:
                    paper.append((node[1], dice.randrange(len(other.rows)), dice.randint(0, len(other.rows))))
                    added += 1
            dice.shuffle(paper)
            self.assertLet(sheet, other.code, paper)
        self.assertGreater(added, 50)


class Enough(unittest.TestCase):
    def test_the_number_told(self):
        sheet, code = [1, 0, 0, 0, 7], [1, 0, 0, 0, 0, 7, 7, 0]
        for breaths, due in ((0, 3 * 2 * 6 * 3), (1, 3 * 3 * 6 * 3), (10, 3 * 12 * 6 * 3), (20000, 3 * 20002 * 6 * 3)):
            told = enough(sheet, code, breaths)
            self.assertEqual(told, due)
            self.assertIs(type(told), int)

    def test_numbers_of_the_sheet_and_rows_of_the_code(self):
        for text in TEXTS:
            sheet = sheet_of(text)
            code = made(sheet)
            before = (list(sheet), list(code))
            rows = (len(code) - 1 - 3 * code[0]) // 2
            for breaths in (0, 1, 7, 20000, 10 ** 30):
                due = 3 * (breaths + 2) * (len(sheet) + 1) * (rows + 1)
                self.assertEqual(enough(sheet, code, breaths), due)
            self.assertEqual((sheet, code), before)

    def test_of_what_is_no_sheet_or_no_code(self):
        with self.assertRaises(NoSheet):
            enough([1, 0, 0, 20], [1, 0, 0, 0, 0, 7, 7, 0], 1)
        with self.assertRaises(NoSheet):
            enough([1, 0, 0, 20], [], 1)
        with self.assertRaises(NoCode):
            enough([1, 0, 0, 0, 7], [1, 0, 0, 0], 1)

    def test_the_outcome_of_run_where_a_paper_is_let_by(self):
        dice = random.Random(32)
        for text in TEXTS + (
            "fun m with k is loop 1 set k add k 1",
            "fun m with k is loop less k 40 all 2 push 1 k set k add k 1",
            "fun m with is call f 3 fun f n with k is all 2 loop less k n all 2 call g k set k add k 1 push 1 k "
            "fun g a with is pick 3 a 7 push 1 a mul a a",
        ):
            sheet = sheet_of(text)
            for turn in range(3):
                other = Elsewhere(dice, functions(sheet))
                self.assertIs(lets_by(sheet, other.code, other.paper), True)
                for given in ([], [0], [5, -1, 2], [SIXTY, 3]):
                    for breaths in list(range(8)) + [30, 500]:
                        most = enough(sheet, other.code, breaths)
                        self.assertEqual(go(other.code, given, breaths, most), run(sheet, given, breaths))

    def test_long_ways_of_jumps(self):
        # Round the loop by nearly as many jumps as the code has rows.
        many = 200
        rows = [(BREATH, 0), (PUSH, 1), (UNLESS, 6), (PUSH, 4), (DROP, 0), (JUMP, 8), (PUSH, 0), (BACK, 0)]
        rows += [(JUMP, at + 1) for at in range(8, 8 + many)] + [(JUMP, 0)]
        sheet = sheet_of("fun m with is loop 1 4")
        code = code_of([(0, 0, 0)], rows)
        self.assertIs(lets_by(sheet, code, [(3, 0, 7), (4, 1, 2), (6, 3, 4)]), True)
        for breaths in (0, 1, 2, 50):
            self.assertEqual(go(code, [], breaths, enough(sheet, code, breaths)), run(sheet, [], breaths))


class NothingChanged(Letting):
    def test_asked_again_it_is_the_same(self):
        for text in TEXTS:
            sheet = sheet_of(text)
            code, paper = made(sheet), made_paper(sheet)
            for turn in range(3):
                self.assertLet(sheet, code, paper)
            line = paper.pop()
            self.assertNotLet(sheet, code, paper)
            paper.insert(0, line)
            self.assertLet(sheet, code, paper)
            code[-1], code[-2] = 7, PUSH
            self.assertNotLet(sheet, code, paper)
            code[-1], code[-2] = 0, BACK
            self.assertLet(sheet, code, paper)

    def test_papers_of_anything_are_as_they_were(self):
        for paper in ([], [[3, 0, 1]], [(3, 0, 1), [4]], {}, [(3, [0], 1)], [(3, 0, 1), (3, 0, 1)]):
            before = copy.deepcopy(paper)
            lets_by([1, 0, 0, 0, 7], [1, 0, 0, 0, 0, 7, 7, 0], paper)
            self.assertEqual(paper, before)


if __name__ == "__main__":
    unittest.main()
