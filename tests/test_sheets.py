"""Sheets [4] to [7], and that nothing handed in is changed [2]."""

import copy
import random
import unittest

from ownchain.errors import ChainError, NoSheet
from ownchain.sheets import functions, nodes, sheet_of, wrong
from programs import SIXTY, TWO_PARTS, random_programs


def number(value):
    return [0, value]


def one(body, boxes=0):
    return [1, 0, boxes] + body


def chain(many, last):
    # Nodes of one part, each in the one ahead, so that `last` stands one deeper than there are of them.
    return one([18] * many + last)


def all_kinds():
    body = [3, 12]
    body += [2, 0] + number(5)
    body += [4, 2, 1, 0] + number(1) + number(2)
    body += [5, 1, 0, 2, 0, 9, 1, 0] + number(1)
    body += [6, 1] + number(7) + [1, 1]
    body += [6, 2]
    body += [7] + number(-4)
    body += [3, 9]
    for kind in TWO_PARTS:
        body += [kind] + number(kind) + [1, 1]
    body += [17] + number(1) + number(0) + number(SIXTY)
    body += [18] + number(0)
    body += [19]
    body += number(-SIXTY)
    body += [1, 1]
    return [3, 0, 2, 2, 3, 0, 0] + body + [8, 1, 0, 2, 2, 1, 1] + number(0)


def later_call():
    # Function 0 calls 1, and 1 calls 2, itself, and 0: all may be called, whatever their order.
    return [3, 0, 0, 1, 1, 4, 12, 6, 1, 0, 3] + [3, 3, 6, 2, 19, 19, 19, 19, 6, 1, 1, 0, 6, 0] + [1, 11]


def ordinary():
    return [
        one(number(0)), one([19]), one(number(SIXTY)), one(number(-SIXTY)), one([1, 11], 12),
        all_kinds(), later_call(), chain(9, [19]),
        [16, 0, 0] + [4, 12] * 15 + [19] * 16,
    ]


def random_sheets(many):
    return random_programs(random.Random(20), many)


class Refused(unittest.TestCase):
    def assertNoSheet(self, place, word, asked, thing):
        with self.assertRaises(NoSheet) as caught:
            asked(thing)
        self.assertIsInstance(caught.exception, ChainError)
        self.assertEqual((caught.exception.place, caught.exception.word), (place, word))


class OrdinarySheets(unittest.TestCase):
    def test_they_are_sheets(self):
        for sheet in ordinary():
            self.assertIsNone(wrong(sheet), sheet)

    def test_random_sheets(self):
        for sheet, told in random_sheets(200):
            self.assertIsNone(wrong(sheet), sheet)

    def test_each_kind_by_itself(self):
        bodies = {
            0: number(3), 1: [1, 0], 2: [2, 0, 19], 3: [3, 1, 19], 4: [4, 2, 19, 19, 19], 5: [5, 19, 19], 6: [6, 0],
            7: [7, 19], 17: [17, 19, 19, 19], 18: [18, 19], 19: [19],
        }
        for kind in TWO_PARTS:
            bodies[kind] = [kind, 19, 19]
        self.assertEqual(sorted(bodies), list(range(20)))
        for body in bodies.values():
            sheet = one(body, 1)
            self.assertIsNone(wrong(sheet), sheet)
            self.assertEqual(wrong(sheet + [0]), (len(sheet), "over"))
            self.assertEqual(wrong(sheet[:-1]), (len(sheet) - 1, "end"))


class Bounds(unittest.TestCase):
    def assertRange(self, numbers, place):
        self.assertEqual(wrong(numbers), (place, "range"), numbers)

    def test_how_many_functions(self):
        for many in range(1, 17):
            self.assertIsNone(wrong([many] + [0, 0] * many + [19] * many))
        for many in (0, 17, -1, SIXTY, -SIXTY):
            self.assertRange([many] + [0, 0] * 17 + [19] * 17, 0)
            self.assertRange([many], 0)

    def test_params(self):
        for params in range(5):
            self.assertIsNone(wrong([2, 0, 0, params, 4, 19, 19]))
        for params in (5, -1, SIXTY, -SIXTY):
            self.assertRange([2, 0, 0, params, 12, 19, 19], 3)
            self.assertRange([3, 0, 0, 4, 4, params, 12, 19, 19, 19], 5)

    def test_function_0_has_no_params(self):
        for params in (1, 4, 5, -1):
            self.assertRange([1, params, 12, 19], 1)
            self.assertRange([2, params, 12, 0, 0, 19, 19], 1)

    def test_boxes(self):
        for params in range(5):
            for boxes in range(params, 13):
                self.assertIsNone(wrong([2, 0, 0, params, boxes, 19, 19]))
            for boxes in (params - 1, 13, -1, SIXTY):
                self.assertRange([2, 0, 0, params, boxes, 19, 19], 4)
        for boxes in range(13):
            self.assertIsNone(wrong([1, 0, boxes, 19]))
        for boxes in (-1, 13):
            self.assertRange([1, 0, boxes, 19], 2)

    def test_kinds(self):
        for kind in (-1, 20, 21, SIXTY, -SIXTY):
            self.assertRange(one([kind]), 3)
            self.assertRange(one([8, 19, kind, 19]), 5)
        self.assertIsNone(wrong(one([0, 0])))
        self.assertIsNone(wrong(one([19])))

    def test_how_many_of_all(self):
        for many in range(1, 13):
            self.assertIsNone(wrong(one([3, many] + [19] * many)))
        for many in (0, 13, -1, SIXTY):
            self.assertRange(one([3, many] + [19] * 13), 4)

    def test_how_many_of_pick(self):
        for many in range(2, 13):
            self.assertIsNone(wrong(one([4, many, 19] + [19] * many)))
        for many in (0, 1, 13, -1, SIXTY):
            self.assertRange(one([4, many, 19] + [19] * 13), 4)

    def test_boxes_that_are_there(self):
        for boxes in range(1, 13):
            for box in range(boxes):
                self.assertIsNone(wrong(one([1, box], boxes)))
                self.assertIsNone(wrong(one([2, box, 19], boxes)))
        for boxes in range(13):
            for box in (boxes, boxes + 1, -1, SIXTY):
                self.assertRange(one([1, box], boxes), 4)
                self.assertRange(one([2, box, 19], boxes), 4)

    def test_a_box_is_one_of_the_function_around_the_node(self):
        self.assertIsNone(wrong([2, 0, 1, 2, 3, 1, 0, 1, 2]))
        self.assertRange([2, 0, 1, 2, 3, 1, 1, 1, 2], 6)
        self.assertRange([2, 0, 1, 2, 3, 1, 0, 1, 3], 8)
        self.assertRange([2, 0, 1, 2, 3, 18, 1, 2, 1, 2], 7)

    def test_functions_that_are_there(self):
        for many in (1, 2, 16):
            heads = [many] + [0, 0] * many
            for function in range(many):
                self.assertIsNone(wrong(heads + [6, function] + [19] * (many - 1)))
            for function in (many, many + 1, -1, SIXTY):
                self.assertRange(heads + [6, function] + [19] * (many - 1), len(heads) + 1)

    def test_a_call_has_the_parts_of_a_function_that_comes_later(self):
        self.assertIsNone(wrong(later_call()))
        for params in range(5):
            heads = [2, 0, 0, params, 4]
            self.assertIsNone(wrong(heads + [6, 1] + [19] * params + [19]))
            self.assertEqual(wrong(heads + [6, 1] + [19] * params), (7 + params, "end"))
            self.assertEqual(wrong(heads + [6, 1] + [19] * params + [19, 19]), (8 + params, "over"))

    def test_deep(self):
        self.assertIsNone(wrong(chain(9, [19])))
        self.assertIsNone(wrong(chain(9, number(4))))
        self.assertEqual(wrong(chain(10, [19])), (13, "deep"))
        self.assertEqual(wrong(chain(11, [19])), (13, "deep"))

    def test_deep_by_parts_of_each_kind(self):
        parted = {2: [2, 0], 3: [3, 1], 4: [4, 2], 5: [5], 7: [7], 17: [17], 18: [18]}
        for kind in TWO_PARTS:
            parted[kind] = [kind]
        for start in parted.values():
            head = [1, 0, 1]
            self.assertEqual(wrong(head + [18] * 9 + start + [19] * 3), (12 + len(start), "deep"), start)
            self.assertIsNone(wrong(head + [18] * 8 + start + [19] * self.parts(start)), start)

    def parts(self, start):
        return {3: 1, 4: 3, 2: 1, 7: 1, 17: 3, 18: 1}.get(start[0], 2)

    def test_a_part_behind_the_first_may_be_too_deep(self):
        self.assertEqual(wrong(one([18] * 8 + [8, 19, 18, 19])), (14, "deep"))
        self.assertIsNone(wrong(one([18] * 8 + [8, 19, 19])))

    def test_a_call_without_params_10_deep(self):
        self.assertIsNone(wrong([2, 0, 0, 0, 0] + [18] * 9 + [6, 1, 19]))
        self.assertEqual(wrong([2, 0, 0, 1, 1] + [18] * 9 + [6, 1, 19, 19]), (16, "deep"))

    def test_each_body_begins_one_deep(self):
        self.assertIsNone(wrong([2, 0, 0, 0, 0] + ([18] * 9 + [19]) * 2))
        self.assertEqual(wrong([2, 0, 0, 0, 0] + [18] * 9 + [19] + [18] * 10 + [19]), (25, "deep"))


class FirstWrongPlace(unittest.TestCase):
    def test_end_of_the_empty_list(self):
        self.assertEqual(wrong([]), (0, "end"))

    def test_end_at_every_cut(self):
        for sheet in ordinary() + [sheet for sheet, told in random_sheets(60)]:
            for cut in range(len(sheet)):
                self.assertEqual(wrong(sheet[:cut]), (cut, "end"), sheet)

    def test_over_with_one_and_more_numbers_behind(self):
        for sheet in ordinary():
            for behind in ([0], [19], [-1], [77, 0, 5], [SIXTY], sheet):
                self.assertEqual(wrong(sheet + behind), (len(sheet), "over"))

    def test_deep_goes_ahead_of_range_and_end(self):
        for behind in ([], [20], [-1], [19], [19, 0], [SIXTY]):
            self.assertEqual(wrong(chain(10, behind)), (13, "deep"))

    def test_what_stands_ahead_of_the_deep_node_goes_first(self):
        self.assertEqual(wrong(one([18] * 9 + [3, 0])), (13, "range"))
        self.assertEqual(wrong(one([18] * 9 + [3])), (13, "end"))
        self.assertEqual(wrong(one([18] * 9 + [3, 1])), (14, "deep"))
        self.assertEqual(wrong(one([18] * 9 + [2, 1, 19], 1)), (13, "range"))

    def test_the_first_of_several(self):
        self.assertEqual(wrong([1, 1, 13, 20, 20]), (1, "range"))
        self.assertEqual(wrong([2, 0, 13]), (2, "range"))
        self.assertEqual(wrong([1, 0, 0, 8, 19, 20, 19, 19]), (5, "range"))
        self.assertEqual(wrong([1, 0, 0, 6, 1]), (4, "range"))

    def test_heads_all_stand_ahead_of_the_bodies(self):
        self.assertEqual(wrong([2, 0, 0, 19, 19]), (3, "range"))
        self.assertEqual(wrong([2, 0, 0, 0, 0, 19]), (6, "end"))

    def test_what_stands_ahead_of_the_place_is_right(self):
        dice = random.Random(6)
        words = set()
        for sheet, told in random_sheets(200):
            bent = list(sheet)
            bent[dice.randrange(len(bent))] = dice.randint(-2, 21)
            found = wrong(bent)
            if found is None:
                continue
            place, word = found
            words.add(word)
            ahead = {"end": (place, "end"), "range": (place, "end"), "deep": (place, "deep"), "over": None}
            self.assertEqual(wrong(bent[:place]), ahead[word], bent)
            if word != "end":
                self.assertEqual(wrong(bent[:place + 1]), found)
        self.assertEqual(words, {"end", "range", "over", "deep"})

    def test_a_truth_is_no_whole_number(self):
        self.assertEqual(wrong([True, 0, 0, 19]), (0, "range"))
        self.assertEqual(wrong([1, 0, 0, 0, False]), (4, "range"))

    def test_it_is_a_tuple_of_a_whole_number_and_a_text(self):
        for numbers in ([], [0], chain(10, []), one([19, 19])):
            found = wrong(numbers)
            self.assertIs(type(found), tuple)
            self.assertEqual([type(thing) for thing in found], [int, str])


class Functions(Refused):
    def test_list_of_tuples(self):
        sheet = [2, 0, 1, 1, 2] + [3, 2, 2, 0, 8, 1, 0, 0, 1] + [6, 1, 1, 0] + [10, 1, 0, 1, 1]
        body = (3, 5, (2,), (
            (2, 7, (0,), ((8, 9, (), ((1, 10, (0,), ()), (0, 12, (1,), ()))),)),
            (6, 14, (1,), ((1, 16, (0,), ()),)),
        ))
        more = (10, 18, (), ((1, 19, (0,), ()), (1, 21, (1,), ())))
        told = functions(sheet)
        self.assertEqual(told, [(0, 1, body), (1, 2, more)])
        self.assertIs(type(told), list)

    def test_parts_of_pick_loop_fail_and_put(self):
        sheet = one([4, 2, 5, 0, 3, 19, 7, 0, -4, 17, 19, 18, 0, 6, 19])
        pick = (4, 3, (2,), (
            (5, 5, (), ((0, 6, (3,), ()), (19, 8, (), ()))),
            (7, 9, (), ((0, 10, (-4,), ()),)),
            (17, 12, (), ((19, 13, (), ()), (18, 14, (), ((0, 15, (6,), ()),)), (19, 17, (), ()))),
        ))
        self.assertEqual(functions(sheet), [(0, 0, pick)])

    def test_random_sheets(self):
        for sheet, told in random_sheets(200):
            self.assertEqual(functions(sheet), told)

    def test_tuples_within(self):
        waiting = [body for params, boxes, body in functions(all_kinds())]
        while waiting:
            node = waiting.pop()
            kind, place, numbers, parts = node
            self.assertEqual([type(thing) for thing in node], [int, int, tuple, tuple])
            waiting.extend(parts)

    def test_refused(self):
        for numbers in ([], [0], [1, 0, 0, 20], chain(10, []), one([19, 19]), all_kinds()[:-1]):
            place, word = wrong(numbers)
            self.assertNoSheet(place, word, functions, numbers)


class Nodes(Refused):
    def test_by_place(self):
        sheet = [2, 0, 0, 1, 1] + [8, 18, 19, 6, 1, 0, 7] + [1, 0]
        new = (19, 7, (), ())
        size = (18, 6, (), (new,))
        seven = (0, 10, (7,), ())
        call = (6, 8, (1,), (seven,))
        add = (8, 5, (), (size, call))
        self.assertEqual(nodes(sheet), [add, size, new, call, seven, (1, 12, (0,), ())])
        self.assertIs(type(nodes(sheet)), list)

    def test_random_sheets(self):
        for sheet, told in random_sheets(100):
            found = nodes(sheet)
            places = [node[1] for node in found]
            self.assertEqual(places, sorted(set(places)))
            length = 1 + 2 * len(told) + sum(1 + len(node[2]) for node in found)
            self.assertEqual(length, len(sheet))
            for node in found:
                self.assertEqual(sheet[node[1]], node[0])
                self.assertEqual(tuple(sheet[node[1] + 1:node[1] + 1 + len(node[2])]), node[2])
                for part in node[3]:
                    self.assertIn(part, found)
            for params, boxes, body in told:
                self.assertIn(body, found)

    def test_refused(self):
        for numbers in ([], [17], [1, 0, 0, 20], chain(10, []), one([19, 19]), all_kinds()[:-1]):
            place, word = wrong(numbers)
            self.assertNoSheet(place, word, nodes, numbers)


def body_of(many, last):
    node = last
    for part in range(many):
        node = (18, 0, (), (node,))
    return node


def other_places(node):
    kind, place, numbers, parts = node
    return (kind, 900 - place, numbers, tuple(other_places(part) for part in parts))


class SheetOf(Refused):
    NEW = (19, 0, (), ())

    def test_the_sheet_again(self):
        for sheet in ordinary():
            self.assertEqual(sheet_of(functions(sheet)), sheet)
        for sheet, told in random_sheets(100):
            self.assertEqual(sheet_of(told), sheet)

    def test_whatever_the_places_say(self):
        for sheet in ordinary():
            told = [(params, boxes, other_places(body)) for params, boxes, body in functions(sheet)]
            self.assertEqual(sheet_of(told), sheet)

    def test_it_is_a_list_of_whole_numbers(self):
        sheet = sheet_of(functions(all_kinds()))
        self.assertIs(type(sheet), list)
        self.assertEqual({type(thing) for thing in sheet}, {int})

    def test_what_is_written_counts_not_how_it_is_parted(self):
        # The first new is written right behind size, and so it is the part that size is still due.
        add = (8, 0, (), ((18, 0, (), ()), self.NEW, self.NEW))
        self.assertEqual(sheet_of([(0, 0, add)]), one([8, 18, 19, 19]))
        number_with_parts = (0, 0, (), ((19, 0, (), ()),))
        self.assertEqual(sheet_of([(0, 0, number_with_parts)]), one([0, 19]))

    def test_heads_that_are_none(self):
        new = self.NEW
        self.assertNoSheet(0, "range", sheet_of, [])
        self.assertNoSheet(0, "range", sheet_of, [(0, 0, new)] * 17)
        self.assertEqual(sheet_of([(0, 0, new)] * 16), [16] + [0, 0] * 16 + [19] * 16)
        self.assertNoSheet(1, "range", sheet_of, [(1, 1, new)])
        self.assertNoSheet(2, "range", sheet_of, [(0, 13, new)])
        self.assertNoSheet(3, "range", sheet_of, [(0, 0, new), (5, 12, new)])
        self.assertNoSheet(4, "range", sheet_of, [(0, 0, new), (3, 2, new)])

    def test_nodes_that_are_none(self):
        new = self.NEW
        self.assertNoSheet(3, "range", sheet_of, [(0, 0, (20, 0, (), ()))])
        self.assertNoSheet(4, "range", sheet_of, [(0, 2, (1, 0, (2,), ()))])
        self.assertNoSheet(4, "range", sheet_of, [(0, 0, (3, 0, (13,), (new,) * 13))])
        self.assertNoSheet(5, "end", sheet_of, [(0, 0, (8, 0, (), (new,)))])
        self.assertNoSheet(6, "over", sheet_of, [(0, 0, (8, 0, (), (new,) * 3))])
        self.assertNoSheet(5, "over", sheet_of, [(0, 0, (0, 0, (1, 2), ()))])
        self.assertNoSheet(4, "end", sheet_of, [(0, 0, (0, 0, (), ()))])

    def test_deep(self):
        self.assertEqual(sheet_of([(0, 0, body_of(9, self.NEW))]), chain(9, [19]))
        for many in (10, 11, 40, 5000):
            self.assertNoSheet(13, "deep", sheet_of, [(0, 0, body_of(many, self.NEW))])


class NothingChanged(unittest.TestCase):
    def test_lists_handed_in_are_as_they_were(self):
        for numbers in ordinary() + [[], [1, 0, 0, 20], one([19, 19]), chain(10, [])]:
            before = list(numbers)
            for asked in (wrong, functions, nodes):
                try:
                    asked(numbers)
                except NoSheet:
                    pass
                self.assertEqual(numbers, before)

    def test_functions_handed_in_are_as_they_were(self):
        new = (19, 0, (), ())
        for told in [functions(sheet) for sheet in ordinary()] + [[(0, 0, (8, 0, (), (new,)))]]:
            before = copy.deepcopy(told)
            try:
                sheet_of(told)
            except NoSheet:
                pass
            self.assertEqual(told, before)

    def test_what_was_told_is_the_askers_own(self):
        sheet = all_kinds()
        for asked, thing in ((functions, sheet), (nodes, sheet), (sheet_of, functions(sheet))):
            first = asked(thing)
            before = list(first)
            first.reverse()
            first.append(first.pop(0))
            first.clear()
            self.assertEqual(asked(thing), before)

    def test_a_later_change_of_what_was_handed_in_changes_nothing_told(self):
        sheet = all_kinds()
        told = functions(sheet)
        listed = nodes(sheet)
        sheet[0] = 0
        sheet.clear()
        self.assertEqual(told, functions(all_kinds()))
        self.assertEqual(listed, nodes(all_kinds()))
        written_sheet = sheet_of(told)
        told.clear()
        self.assertEqual(written_sheet, all_kinds())
        self.assertEqual(wrong(sheet), (0, "end"))


if __name__ == "__main__":
    unittest.main()
