"""Smaller code [26]: what it and its paper promise, rows written out, and that nothing handed in is changed [2]."""

import copy
import random
import unittest

from ownchain.codes import heads_of, is_code, rows_of
from ownchain.codetexts import read_code, show_code
from ownchain.errors import ChainError, NoSheet, NoText
from ownchain.machine import go
from ownchain.maker import made
from ownchain.papers import enough, lets_by
from ownchain.runner import run
from ownchain.sheets import functions, nodes, wrong
from ownchain.small import small
from ownchain.texts import read_text
from programs import SIXTY, any_number, random_programs, second_fixed, second_lets_by, small_number

PUSH, JUMP, UNLESS, BACK, PICK = 0, 4, 5, 7, 11

# Bodies of a function with the boxes k and j, and f to be called with one param.
BODIES = (
    "7", "-7", "0", f"{SIXTY}", "k", "new", "size 0", "call f 3", "call f k", "fail 3", "fail add 1 2", "fail k",
    "set k 4", "set k add 4 4", "set j k", "push 1 mul 6 7", "at 0 0", "at 0 sub 3 3", "put 0 rest 7 2 9",
    # Fixed, of each kind, and one within another.
    "add 2 3", "sub 2 3", "mul 4 5", "quo -7 2", "rest -7 2", "less 1 2", "less 2 1", "same 3 3", "same 3 4",
    "add mul 2 3 sub less 1 2 quo 9 4", f"mul {SIXTY} -{10 ** 40}",
    # Fixed in part: get, size and their like are not reckoned ahead.
    "add k add 1 2", "add add 1 2 k", "sub size 0 mul 3 3", "all 2 add 1 2 add 3 4", "all 3 k add 1 1 new", "all 1 2",
    # Faults within.
    "quo 1 0", "rest 1 sub 2 2", "add 1 quo 1 0", "add quo 1 0 add 1 1", "less 1 rest 5 0", f"mul {SIXTY} {SIXTY}",
    f"sub 0 mul {SIXTY} {SIXTY}", f"add mul {SIXTY} {10 ** 39} mul {SIXTY} {10 ** 40}",
    "same quo 1 0 quo 1 0", "all 2 push 1 add 1 1 quo add 1 1 0",
    # Picks.
    "pick 2 k 4 5", "pick 2 size 0 add 1 2 k", "pick 3 size 0 new k 6", "pick 12 size 0 0 1 2 3 4 5 6 7 8 9 10 11",
    "pick 2 0 k 5", "pick 2 1 k 5", "pick 2 2 k 5", "pick 2 -1 k push 1 5", "pick 3 1 push 1 0 push 1 1 push 1 2",
    f"pick 2 {SIXTY} 3 size 0", "pick 2 less 2 1 loop k 3 fail 5", "pick 2 add 1 quo 1 0 3 4", "pick 2 quo 1 0 k j",
    "pick 2 1 quo 1 0 add 1 1", "pick 2 0 quo 1 0 add 1 1", "pick 2 k quo 1 0 add 1 1",
    # Picks within picks.
    "pick 2 0 pick 2 1 3 pick 2 sub 1 1 push 1 8 9 5", "pick 2 pick 2 0 1 2 k j", "pick 2 pick 2 0 k 2 3 add 4 1",
    "pick 2 k pick 2 j 1 2 pick 2 size 0 3 4", "pick 2 k pick 2 1 1 j pick 2 0 size 0 4",
    "pick 2 k pick 2 j pick 2 size 0 1 2 3 4", "pick 3 k 1 pick 3 size 0 2 pick 2 j 3 4 5 6",
    "pick 2 pick 2 k 0 1 pick 2 j 2 3 4", "pick 2 k 1 pick 2 1 2 pick 2 j 3 4",
    # Loops.
    "loop 0 k", "loop 0 add 1 2", "loop 1 set k add k 1", "loop less 2 1 push 1 mul 2 2", "loop add 0 1 add 2 2",
    "loop less k 3 all 2 push 1 add 2 2 set k add k add 0 1", "loop k quo 1 0", "loop quo 1 0 2",
    "loop less k 4 pick 2 rest k 2 all 2 push 1 k set k add k 1 set k add k 1",
    "loop pick 2 k less k 2 0 set k add k 1",
    "loop loop 0 k 3", "all 2 loop less k 2 loop less j 2 all 2 set j add j 1 set k add k 1 k",
    "pick 2 k loop less k 3 set k add k 1 2", "loop less k 2 all 2 loop 0 1 set k add k 1",
    # Bodies that end in fail or loop, or have rows behind a fail.
    "all 2 push 1 3 fail 4", "all 2 fail 4 push 1 3", "pick 2 k fail 1 fail 2", "pick 2 k fail 1 2",
    "pick 2 k 1 fail 2",
    "add fail 1 2", "add 2 fail 1", "loop fail 3 4", "loop 1 fail add 1 1", "fail fail 3", "fail loop 0 1",
    "pick 2 fail 1 2 3", "set k pick 2 0 fail 7 8", "pick 2 0 fail 7 8", "call f fail 3", "pick 2 k loop 0 1 loop 0 2",
)

GIVEN = ([], [0], [5, -1, 2], [SIXTY, 3, 0, 0, 1])


def sheet_of(text):
    return read_text(text)[1]


def of_body(body):
    return sheet_of(f"fun m with k j is {body} fun f n with is mul n add 1 1")


# Ten deep, by each kind that has parts; the last words are the body's innermost.
def ten_deep():
    for ahead, behind in (
        ("add 1 ", ""), ("add k ", ""), ("add ", " 1"), ("add ", " k"), ("set k ", ""), ("all 2 1 ", ""),
        ("all 2 ", " 1"), ("pick 2 ", " 1 2"), ("pick 2 k ", " 3"), ("pick 2 k 3 ", ""), ("pick 2 0 ", " 3"),
        ("pick 2 1 3 ", ""), ("pick 2 0 3 ", ""), ("loop ", " 3"), ("loop k ", ""), ("call f ", ""), ("fail ", ""),
        ("push 1 ", ""), ("at 0 ", ""), ("put 0 0 ", ""), ("size ", ""), ("less ", " 4"), ("quo 0 ", ""),
    ):
        for last in ("3", "k", "0"):
            yield of_body(ahead * 9 + last + behind * 9)


def places_due(node):
    """All nodes but those in a fixed one, and, in a pick that is done ahead, all but the part that is done."""
    kind, place, own, parts = node
    if second_fixed(node) is not None:
        return [place]
    if kind == 4 and second_fixed(parts[0]) is not None:
        value = second_fixed(parts[0])
        parts = parts[1:]
        parts = [parts[value] if value in range(len(parts)) else parts[-1]]
    return [place] + [other for part in parts for other in places_due(part)]


def come_to(heads, rows):
    """The numbers of the rows that are come to, by going over all rows again as long as one more is found."""
    found = {head[0] for head in heads}
    many = 0
    while many < len(found):
        many = len(found)
        for at in sorted(found):
            op, number = rows[at]
            if op not in (JUMP, BACK):
                found.add(at + 1)
            if op in (JUMP, UNLESS):
                found.add(number)
            if op == PICK:
                found.update(range(at + 1, at + 1 + number))
    return sorted(found)


class Small(unittest.TestCase):
    def assertSmall(self, sheet):
        before = list(sheet)
        told = small(sheet)
        self.assertEqual(sheet, before)
        self.assertIs(type(told), tuple)
        code, paper = told
        self.assertIs(is_code(code), True)
        self.assertIs(type(paper), list)
        for line in paper:
            self.assertIs(type(line), tuple)
            self.assertEqual([type(number) for number in line], [int] * 3)
        heads, rows = heads_of(code), rows_of(code)
        program = functions(sheet)
        self.assertIs(lets_by(sheet, code, paper), True, sheet)
        self.assertIs(second_lets_by(program, heads, rows, paper), True, sheet)
        self.assertStraight(rows)
        self.assertFixed(sheet, rows, paper)
        due = [place for function in program for place in places_due(function[2])]
        self.assertEqual(sorted(line[0] for line in paper), due, sheet)
        self.assertEqual(come_to(heads, rows), list(range(len(rows))), sheet)
        self.assertLessEqual(len(code), len(made(sheet)))
        return code

    def assertStraight(self, rows):
        for op, number in rows:
            if op in (JUMP, UNLESS):
                self.assertNotEqual(rows[number][0], JUMP, rows)

    def assertFixed(self, sheet, rows, paper):
        lines = {line[0]: line[1:] for line in paper}
        for node in nodes(sheet):
            value = second_fixed(node)
            if node[1] in lines and value is not None:
                begin, end = lines[node[1]]
                self.assertEqual((rows[begin], end), ((PUSH, value), begin + 1), sheet)

    def assertDone(self, sheet, code, breaths):
        for given in GIVEN:
            for many in breaths:
                outcome = run(sheet, given, many)
                self.assertEqual(go(code, given, many, enough(sheet, code, many)), outcome, (sheet, given, many))


class Sheets(Small):
    def test_bodies_of_all_kinds(self):
        for body in BODIES:
            sheet = of_body(body)
            self.assertDone(sheet, self.assertSmall(sheet), list(range(7)) + [40, 300])

    def test_each_kind_is_there(self):
        kinds = {node[0] for body in BODIES for node in nodes(of_body(body))}
        self.assertEqual(kinds, set(range(20)))

    def test_ten_deep(self):
        many = 0
        for sheet in ten_deep():
            many += 1
            code = self.assertSmall(sheet)
            self.assertDone(sheet, code, (0, 1, 2, 3, 15, 60))
        self.assertGreater(many, 60)

    def test_bodies_one_within_another(self):
        dice = random.Random(41)
        found = 0
        while found < 300:
            outer, inner = dice.choice(BODIES), dice.choice(BODIES)
            words = outer.split(" ")
            spots = [at for at, word in enumerate(words) if word == "k" and (at == 0 or words[at - 1] != "set")]
            if spots:
                words[dice.choice(spots)] = inner
                try:
                    sheet = of_body(" ".join(words))
                except NoText:
                    # One within another they are more than ten deep.
                    continue
                found += 1
                self.assertDone(sheet, self.assertSmall(sheet), (0, 1, 2, 5, 50))

    def test_random_sheets(self):
        dice = random.Random(42)
        for value in (small_number, any_number):
            for sheet, told in random_programs(dice, 250, value):
                self.assertDone(sheet, self.assertSmall(sheet), (0, 1, 2, 3, 5, 30))

    def test_sheets_of_sixteen_functions(self):
        text = "fun main with is call a 2 " + " ".join(
            f"fun {one} n with k is pick 2 less n add 1 1 call {other} add n sub 2 2 pick 2 0 push 1 n k"
            for one, other in zip("abcdefghijklmno", "bcdefghijklmnoa")
        )
        sheet = sheet_of(text)
        self.assertEqual(sheet[0], 16)
        self.assertDone(sheet, self.assertSmall(sheet), (0, 1, 2, 3, 16, 17, 100))

    def test_long_sheets(self):
        body = "all 12 " + " ".join(["all 12 " + " ".join(["pick 2 k add 1 2 push 1 2"] * 12)] * 12)
        sheet = of_body(body)
        self.assertGreater(len(sheet), 1500)
        self.assertDone(sheet, self.assertSmall(sheet), (0, 1, 2))

    def test_functions_that_nobody_calls(self):
        sheet = sheet_of("fun m with is 7 fun f n with is pick 2 n add 1 2 quo 1 0 fun g with is fail 3")
        code = self.assertSmall(sheet)
        self.assertEqual(len(heads_of(code)), 3)


class Rows(Small):
    def assertRows(self, body, rows):
        sheet = sheet_of(f"fun m with k j is {body}")
        code = self.assertSmall(sheet)
        self.assertEqual(show_code(code), "fun 0 0 2\n" + rows.replace(", ", "\n"), body)
        self.assertEqual(read_code(show_code(code)), code)

    def test_what_is_fixed(self):
        self.assertRows("7", "push 7, back")
        self.assertRows("add 2 mul 3 4", "push 14, back")
        self.assertRows("add k mul 3 4", "get 0, push 12, add, back")
        self.assertRows(f"mul {SIXTY} {10 ** 40 - 1}", f"push {SIXTY * (10 ** 40 - 1)}, back")

    def test_what_faults_is_done_by_the_machine(self):
        self.assertRows("quo add 1 2 0", "push 3, push 0, quo, back")
        self.assertRows("add mul 2 2 rest 1 sub 1 1", "push 4, push 1, push 0, rest, add, back")
        self.assertRows(f"mul {SIXTY} {10 ** 59}", f"push {SIXTY}, push {10 ** 59}, mul, back")

    def test_picks_done_ahead(self):
        self.assertRows("pick 2 0 k j", "get 0, back")
        self.assertRows("pick 2 1 k j", "get 1, back")
        self.assertRows("pick 3 1 4 add 1 1 j", "push 2, back")
        for value in (-1, 2, SIXTY, -SIXTY):
            self.assertRows(f"pick 3 {value} 4 k j", "get 1, back")

    def test_a_pick_of_picks_leads_straight_out(self):
        sheet = sheet_of("fun m with k is pick 2 k pick 2 k 1 2 3")
        rows = rows_of(self.assertSmall(sheet))
        out = rows.index((BACK, 0))
        self.assertIn((JUMP, out), rows)

    def test_fewer_rows_than_are_made(self):
        for body in ("add 1 2", "pick 2 k 1 2", "pick 2 0 1 k", "loop less 1 2 k", "pick 2 k pick 2 j 1 2 3"):
            sheet = of_body(body)
            self.assertLess(len(small(sheet)[0]), len(made(sheet)))


class EachTime(Small):
    def test_the_same_whatever_was_done_to_what_was_told(self):
        for body in BODIES:
            sheet = of_body(body)
            code, paper = small(sheet)
            before = copy.deepcopy((code, paper))
            other, other_paper = small(list(sheet))
            self.assertEqual((other, other_paper), before)
            other.clear()
            other_paper.append((0, 0, 0))
            self.assertEqual((code, paper), before)
            self.assertEqual(small(sheet), before)

    def test_a_later_change_of_the_sheet_changes_nothing_told(self):
        sheet = of_body("pick 2 k add 1 2 3")
        told = small(sheet)
        before = copy.deepcopy(told)
        sheet[:] = of_body("fail 3")
        small(sheet)
        self.assertEqual(told, before)


class Refused(unittest.TestCase):
    def assertNoSheet(self, numbers, place, word):
        before = list(numbers)
        with self.assertRaises(NoSheet) as caught:
            small(numbers)
        self.assertIsInstance(caught.exception, ChainError)
        self.assertEqual((caught.exception.place, caught.exception.word), (place, word))
        self.assertEqual(numbers, before)

    def test_each_word(self):
        self.assertNoSheet([], 0, "end")
        self.assertNoSheet([1, 0, 0], 3, "end")
        self.assertNoSheet([0], 0, "range")
        self.assertNoSheet([1, 0, 0, 20], 3, "range")
        self.assertNoSheet([1, 0, 0, 1, 0], 4, "range")
        self.assertNoSheet([1, 0, 0] + [18] * 10, 13, "deep")
        self.assertNoSheet([1, 0, 0, 19, 0], 4, "over")

    def test_what_is_within_a_fixed_node_or_a_pick_done_ahead_counts_too(self):
        self.assertNoSheet([1, 0, 0, 8, 0, 1, 20], 6, "range")
        self.assertNoSheet([1, 0, 0, 4, 2, 0, 0, 0, 3, 1, 0], 10, "range")

    def test_bent_sheets(self):
        dice = random.Random(43)
        for body in BODIES:
            sheet = of_body(body)
            for turn in range(8):
                bent = list(sheet)
                bent[dice.randrange(len(bent))] = dice.choice((-1, 0, 3, 12, 19, 20, SIXTY))
                found = wrong(bent)
                if found is not None:
                    self.assertNoSheet(bent, found[0], found[1])


if __name__ == "__main__":
    unittest.main()
