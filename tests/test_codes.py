"""Codes [17, 18], of whatever is handed in, and that nothing handed in is changed [2]."""

import copy
import itertools
import unittest

from ownchain.codes import code_of, heads_of, is_code, rows_of
from ownchain.errors import ChainError, NoCode

SIXTY = 10 ** 60 - 1
HUNDRED = 10 ** 100 - 1
PUSH, GET, SET, DROP, JUMP, UNLESS, CALL, BACK, FAIL, BREATH, DO, PICK = range(12)

LEAST = [1, 0, 0, 0, BACK, 0]


def with_rows(rows, many=1):
    heads = [0, 0, 0] * many
    return [many] + heads + [number for row in rows for number in row]


def every_op():
    rows = [
        (PUSH, -SIXTY), (GET, 11), (SET, 0), (DROP, 0), (JUMP, 12), (UNLESS, 0), (CALL, 1), (BACK, 0), (FAIL, 0),
        (BREATH, 0), (DO, 8), (DO, 19), (PICK, 2),
    ]
    heads = [(12, 0, 12), (3, 4, 4)]
    return [2, 12, 0, 12, 3, 4, 4] + [number for row in rows for number in row], heads, rows


class Codes(unittest.TestCase):
    def assertCode(self, numbers):
        self.assertIs(is_code(numbers), True, numbers)
        heads, rows = heads_of(numbers), rows_of(numbers)
        self.assertEqual(len(numbers), 1 + 3 * len(heads) + 2 * len(rows))
        self.assertEqual(code_of(heads, rows), numbers)

    def assertNoCode(self, thing):
        self.assertIs(is_code(thing), False, thing)
        for asked in (heads_of, rows_of):
            with self.assertRaises(NoCode) as caught:
                asked(thing)
            self.assertIsInstance(caught.exception, ChainError)

    def assertMakesNone(self, heads, rows):
        with self.assertRaises(NoCode, msg=(heads, rows)) as caught:
            code_of(heads, rows)
        self.assertIsInstance(caught.exception, ChainError)


class OrdinaryCodes(Codes):
    def test_the_least_code(self):
        self.assertCode(LEAST)
        self.assertEqual(heads_of(LEAST), [(0, 0, 0)])
        self.assertEqual(rows_of(LEAST), [(BACK, 0)])

    def test_every_op(self):
        numbers, heads, rows = every_op()
        self.assertCode(numbers)
        self.assertEqual(heads_of(numbers), heads)
        self.assertEqual(rows_of(numbers), rows)

    def test_one_to_sixteen_functions(self):
        for many in range(1, 17):
            heads = [(function % 3, 0, function % 13) for function in range(many)]
            numbers = [many] + [number for head in heads for number in head] + [PUSH, 1, DROP, 0, BACK, 0]
            self.assertCode(numbers)
            self.assertEqual(heads_of(numbers), heads)
            self.assertEqual(rows_of(numbers), [(PUSH, 1), (DROP, 0), (BACK, 0)])

    def test_many_rows(self):
        numbers = with_rows([(JUMP, 4999)] * 5000)
        self.assertCode(numbers)
        self.assertEqual(rows_of(numbers), [(JUMP, 4999)] * 5000)

    def test_of_what_kinds_they_are(self):
        numbers, heads, rows = every_op()
        for told in (heads_of(numbers), rows_of(numbers)):
            self.assertIs(type(told), list)
            self.assertEqual({type(thing) for thing in told}, {tuple})
            self.assertEqual({type(number) for thing in told for number in thing}, {int})
        self.assertIs(type(code_of(heads, rows)), list)

    def test_code_of_lists_and_tuples(self):
        numbers, heads, rows = every_op()
        for outer, inner, other, within in itertools.product((list, tuple), repeat=4):
            told = code_of(outer(inner(head) for head in heads), other(within(row) for row in rows))
            self.assertEqual(told, numbers)
            self.assertIs(type(told), list)
        self.assertEqual(code_of([list(heads[0]), heads[1]], [list(rows[0])] + rows[1:]), numbers)


class Bounds(Codes):
    def test_numbers_of_each_op(self):
        rows_behind = [(BACK, 0)] * 4
        bounds = {
            GET: (0, 11), SET: (0, 11), DROP: (0, 0), JUMP: (0, 4), UNLESS: (0, 4), CALL: (0, 2), BACK: (0, 0),
            FAIL: (0, 0), BREATH: (0, 0), DO: (8, 19), PICK: (2, 12),
        }
        for op, (least, most) in bounds.items():
            for number in range(least, most + 1):
                self.assertCode(with_rows([(op, number)] + rows_behind, 3))
                self.assertCode(with_rows(rows_behind + [(op, number)], 3))
            for number in (least - 1, most + 1, SIXTY, -SIXTY, -most - 1):
                self.assertNoCode(with_rows([(op, number)] + rows_behind, 3))
                self.assertNoCode(with_rows(rows_behind + [(op, number)], 3))
                self.assertMakesNone([(0, 0, 0)] * 3, [(op, number)] + rows_behind)

    def test_push_has_any_whole_number(self):
        for number in (0, 1, -1, 12, SIXTY, -SIXTY, HUNDRED, -HUNDRED):
            self.assertCode(with_rows([(PUSH, number)]))
            self.assertEqual(rows_of(with_rows([(PUSH, number)])), [(PUSH, number)])

    def test_ops(self):
        for op in (-1, 12, 13, SIXTY, -SIXTY):
            for number in (0, 2, 8):
                self.assertNoCode(with_rows([(op, number)]))
                self.assertNoCode(with_rows([(BACK, 0), (op, number), (BACK, 0)]))

    def test_a_jump_is_to_a_row_of_as_many_as_there_are(self):
        for many in (1, 2, 7):
            for op in (JUMP, UNLESS):
                self.assertCode(with_rows([(op, many - 1)] * many))
                self.assertNoCode(with_rows([(op, many)] * many))

    def test_a_call_is_of_a_function_that_is_there(self):
        for many in range(1, 17):
            self.assertCode(with_rows([(CALL, many - 1)], many))
            self.assertNoCode(with_rows([(CALL, many)], many))

    def test_how_many_functions(self):
        for many in (0, -1, 17, SIXTY, -SIXTY):
            self.assertNoCode([many] + [0, 0, 0] * 17 + [BACK, 0])
            self.assertNoCode([many, BACK, 0])
            self.assertNoCode([many])
        self.assertNoCode([17] + [0, 0, 0] * 17 + [BACK, 0] * 2)
        self.assertMakesNone([(0, 0, 0)] * 17, [(BACK, 0)])
        self.assertMakesNone([], [(BACK, 0)])

    def test_starts(self):
        for many in (1, 2, 5):
            rows = [(BACK, 0)] * many
            for start in range(many):
                self.assertEqual(heads_of(code_of([(0, 0, 0), (start, 1, 1)], rows))[1], (start, 1, 1))
                self.assertCode(code_of([(start, 0, 0)], rows))
            for start in (-1, many, many + 1, SIXTY, -SIXTY):
                self.assertMakesNone([(start, 0, 0)], rows)
                self.assertMakesNone([(0, 0, 0), (start, 1, 1)], rows)
                self.assertNoCode([1, start, 0, 0] + [BACK, 0] * many)
                self.assertNoCode([2, 0, 0, 0, start, 1, 1] + [BACK, 0] * many)

    def test_params_and_boxes(self):
        for params in range(5):
            for boxes in range(params, 13):
                self.assertCode([2, 0, 0, 0, 0, params, boxes, BACK, 0])
                self.assertCode([3, 0, 0, 0, 0, 0, 0, 0, params, boxes, BACK, 0])
            for boxes in (params - 1, 13, -1, SIXTY):
                self.assertNoCode([2, 0, 0, 0, 0, params, boxes, BACK, 0])
        for params in (-1, 5, 6, SIXTY, -SIXTY):
            self.assertNoCode([2, 0, 0, 0, 0, params, 12, BACK, 0])
            self.assertMakesNone([(0, 0, 0), (0, params, 12)], [(BACK, 0)])

    def test_function_0_has_no_params(self):
        for boxes in range(13):
            self.assertCode([1, 0, 0, boxes, BACK, 0])
        for boxes in (-1, 13, SIXTY):
            self.assertNoCode([1, 0, 0, boxes, BACK, 0])
        for params in (-1, 1, 2, 4, 5):
            self.assertNoCode([1, 0, params, 12, BACK, 0])
            self.assertNoCode([2, 0, params, 12, 0, 0, 0, BACK, 0])
            self.assertMakesNone([(0, params, 12)], [(BACK, 0)])

    def test_no_row(self):
        self.assertNoCode([1, 0, 0, 0])
        self.assertNoCode([2, 0, 0, 0, 0, 0, 0])
        self.assertMakesNone([(0, 0, 0)], [])
        self.assertMakesNone([(0, 0, 0)], ())

    def test_half_a_row(self):
        numbers, heads, rows = every_op()
        for many in (1, 2, 16):
            self.assertNoCode(with_rows([(PUSH,)], many))
            self.assertNoCode(with_rows([(BACK, 0), (PUSH,)], many))
        self.assertNoCode(numbers + [0])
        self.assertNoCode(numbers[:-1])

    def test_cut_anywhere(self):
        numbers, heads, rows = every_op()
        for cut in range(7 + 2):
            self.assertNoCode(numbers[:cut])
        # The jump and the start lead to the last row: without it none of the cut ones is a code.
        for cut in range(9, len(numbers)):
            self.assertNoCode(numbers[:cut])


class OfAnything(Codes):
    THINGS = (
        None, True, False, 0, 1, 7, -1, 1.0, "", "a", "100070", b"", (), {}, set(), [], [[]], [()], [None], object(),
        int, [1], [1, 0], [1, 0, 0, 0, BACK], tuple(LEAST), {1: 0}, dict.fromkeys(LEAST), [LEAST], [tuple(LEAST)],
        "fun 0 0 0\nback", LEAST + [None, 0], ["1", "0", "0", "0", "7", "0"], [1.0, 0.0, 0.0, 0.0, 7.0, 0.0],
        range(6), bytearray(LEAST), frozenset(LEAST), lambda: LEAST, [float("nan")] * 6, [float("inf")] * 6,
    )

    def test_things_that_are_no_code(self):
        for thing in self.THINGS:
            self.assertNoCode(thing)

    def test_a_list_within_itself(self):
        thing = list(LEAST)
        thing[3] = thing
        self.assertNoCode(thing)

    def test_numbers_that_are_no_whole_numbers(self):
        numbers, heads, rows = every_op()
        for place in range(len(numbers)):
            own = numbers[place]
            for other in (True, False, None, "0", 1.0, float(own), str(own), [own], ()):
                self.assertNoCode(numbers[:place] + [other] + numbers[place + 1:])

    def test_truths_alike_to_numbers(self):
        self.assertCode([1, 0, 0, 1, PUSH, 1, BACK, 0])
        for place, number in enumerate([1, 0, 0, 1, PUSH, 1, BACK, 0]):
            if number in (0, 1):
                bent = [1, 0, 0, 1, PUSH, 1, BACK, 0]
                bent[place] = bool(number)
                self.assertNoCode(bent)
        self.assertMakesNone([(False, 0, 0)], [(BACK, 0)])
        self.assertMakesNone([(0, 0, True)], [(BACK, 0)])
        self.assertMakesNone([(0, 0, 0)], [(PUSH, True)])
        self.assertMakesNone([(0, 0, 0)], [(False, 3)])

    def test_heads_and_rows_of_any_kind(self):
        for thing in self.THINGS + ([0], [0, 0], [0, 0, 0], (0, 0, 0), "abc", ["abc"], {(0, 0, 0): 1}, {(BACK, 0): 1}):
            self.assertMakesNone(thing, [(BACK, 0)])
            self.assertMakesNone([(0, 0, 0)], thing)
            self.assertMakesNone(thing, thing)
            self.assertMakesNone(thing, None)
            self.assertMakesNone(None, thing)

    def test_a_head_or_a_row_of_any_kind(self):
        for thing in self.THINGS + ("abc", "ab", {0: 0, 1: 0, 2: 0}, {0: 0, 1: 0}, range(3), range(2), b"abc", b"ab"):
            self.assertMakesNone([thing], [(BACK, 0)])
            self.assertMakesNone([(0, 0, 0), thing], [(BACK, 0)])
            # As a row [1, 0] is get 0.
            if thing != [1, 0]:
                self.assertMakesNone([(0, 0, 0)], [thing])
                self.assertMakesNone([(0, 0, 0)], [(BACK, 0), thing])

    def test_of_another_length_than_due(self):
        for head in ((), (0,), (0, 0), (0, 0, 0, 0), (0, 0, 0, 0, 0, 0), [], [0, 0]):
            self.assertMakesNone([head], [(BACK, 0)])
            self.assertMakesNone([(0, 0, 0), head], [(BACK, 0)])
        for row in ((), (PUSH,), (PUSH, 1, 2), (PUSH, 1, BACK, 0), [], [PUSH]):
            self.assertMakesNone([(0, 0, 0)], [row])
            self.assertMakesNone([(0, 0, 0)], [(BACK, 0), row])

    def test_lengths_that_make_up_for_one_another(self):
        self.assertMakesNone([(0, 0, 0, 0), (0, 0)], [(BACK, 0)])
        self.assertMakesNone([(0, 0, 0)], [(PUSH, 1, DROP), (0,)])
        self.assertMakesNone([(0, 0, 0, PUSH, 1)], [(BACK, 0)])
        self.assertMakesNone([(0, 0)], [(0, PUSH), (1, BACK), (0,)])
        self.assertMakesNone([(0, 0), (0, 0), (0, 0)], [(BACK, 0), (BACK, 0)])
        self.assertMakesNone([(0, 0, 0), ()], [(0, 0), (0,), (BACK, 0)])

    def test_numbers_in_the_place_of_heads_and_rows(self):
        self.assertMakesNone([0, 0, 0], [BACK, 0])
        self.assertMakesNone([0, 0, 0], [(BACK, 0)])
        self.assertMakesNone([(0, 0, 0)], [BACK, 0])


class NothingChanged(Codes):
    def test_what_is_handed_in_is_as_it_was(self):
        numbers, heads, rows = every_op()
        for thing in (numbers, numbers[:-1], [17] + numbers, [None], [[1], [2]]):
            before = copy.deepcopy(thing)
            is_code(thing)
            for asked in (heads_of, rows_of):
                try:
                    asked(thing)
                except NoCode:
                    pass
            self.assertEqual(thing, before)
        for others in (rows, rows + [(12, 0)]):
            handed = ([list(head) for head in heads], [list(row) for row in others])
            before = copy.deepcopy(handed)
            try:
                code_of(*handed)
            except NoCode:
                pass
            self.assertEqual(handed, before)

    def test_what_was_told_and_then_changed_changes_nothing(self):
        numbers, heads, rows = every_op()
        for asked, due in ((heads_of, heads), (rows_of, rows)):
            told = asked(numbers)
            kept = asked(numbers)
            told.reverse()
            told.clear()
            self.assertEqual(kept, due)
            self.assertEqual(asked(numbers), due)
            self.assertEqual(numbers, every_op()[0])
        told = code_of(heads, rows)
        told[0] = 0
        told.clear()
        self.assertEqual(code_of(heads, rows), numbers)

    def test_what_was_handed_in_and_then_changed_changes_nothing_told(self):
        numbers, heads, rows = every_op()
        told_heads, told_rows = heads_of(numbers), rows_of(numbers)
        numbers[1] = 0
        numbers.clear()
        self.assertEqual((told_heads, told_rows), (heads, rows))
        own_heads, own_rows = [list(head) for head in heads], [list(row) for row in rows]
        code = code_of(own_heads, own_rows)
        own_heads[0][0] = 0
        own_rows[0][1] = 0
        own_rows.clear()
        self.assertEqual(code, every_op()[0])
        self.assertNoCode(numbers)


if __name__ == "__main__":
    unittest.main()
