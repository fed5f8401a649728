"""The whole [1] to [3]: one program by five roads, texts read back, and that nothing handed in or told is changed."""

import copy
import random
import unittest

from ownchain.bends import parted
from ownchain.codes import code_of, heads_of, is_code, rows_of
from ownchain.codetexts import read_code, show_code
from ownchain.desk import Desk
from ownchain.errors import ChainError
from ownchain.kinds import kind_of, parts_of, word_of
from ownchain.machine import go
from ownchain.maker import made, made_paper
from ownchain.own import breaths_for, by_machine, by_runner, chain, own_sheet, own_text, say, say_due
from ownchain.papers import enough, fixed, lets_by, meant
from ownchain.runner import run
from ownchain.sheets import functions, nodes, sheet_of, wrong
from ownchain.small import small
from ownchain.texts import read_text, show_text
from programs import SIXTY, any_number, random_names, random_programs, second_run, small_number

# Of all kinds together, and each fault and a value among their outcomes.
TEXTS = (
    "fun m with is 7",
    "fun m with k is all 2 loop less k size 0 all 2 push 1 mul at 0 k 2 set k add k 1 k",
    "fun m with k is loop less k 9 all 2 push 1 call f k set k add k 1 "
    "fun f n with is pick 3 n 1 1 mul n call f sub n 1",
    "fun m with is call f 20 fun f n with is pick 2 n push 1 0 call f sub n 1",
    "fun m with k is pick 4 size 0 fail 3 quo at 0 0 0 all 2 put 0 0 9 push 1 at 0 0 pick 2 less 1 2 7 at 0 9",
    "fun m with k is all 3 set k new push k at 0 0 push 1 add at k 0 add 2 mul 3 4",
    "fun m with k is loop 1 push 1 set k sub k rest 7 4",
    "fun m with k is all 2 set k at 0 0 loop same 1 1 push 1 set k mul k k",
    "fun m with is fail push 1 sub 0 size 0",
    "fun m with k is push 2 k",
)
GIVEN = ([], [0], [5, -1], [3, 0, 7], [SIXTY, -SIXTY, 1, 2])


def sheet_of_text(text):
    return read_text(text)[1]


class FiveRoads(unittest.TestCase):
    @classmethod
    def setUpClass(cls):
        cls.maker = own_sheet()
        cls.makers_code = made(cls.maker)

    def codes(self, sheet):
        """The codes for the machine, each by a road of its own."""
        breaths = breaths_for(sheet)
        roads = [made(sheet), small(sheet)[0]]
        for word, code in (by_runner(self.maker, sheet, breaths), by_machine(self.makers_code, sheet, breaths)):
            self.assertEqual(word, "code")
            roads.append(code)
        return roads

    def assertOneOutcome(self, sheet, given, breaths):
        due = second_run(functions(sheet), given, breaths)
        self.assertEqual(run(sheet, given, breaths), due, (sheet, given, breaths))
        for code in self.codes(sheet):
            told = go(code, given, breaths, enough(sheet, code, breaths))
            self.assertEqual(told, due, (sheet, given, breaths))
        return due[0]

    def test_written_programs(self):
        words = set()
        for text in TEXTS:
            for given in GIVEN:
                for breaths in (0, 1, 2, 3, 7, 16, 17, 60, 400):
                    words.add(self.assertOneOutcome(sheet_of_text(text), given, breaths))
        self.assertEqual(words, {"done", "told", "zero", "great", "row", "place", "deep", "breath"})

    def test_random_programs(self):
        dice = random.Random(81)
        for value in (small_number, any_number):
            for sheet, told in random_programs(dice, 80, value):
                for breaths in (0, 1, dice.randint(2, 9), 40):
                    self.assertOneOutcome(sheet, dice.choice(GIVEN), breaths)

    def test_the_own_maker_by_all_roads(self):
        for numbers in ([], [1, 0, 0, 19], sheet_of_text(TEXTS[4]), [1, 0, 0] + [18] * 11, [1, 0, 0, 19, 4]):
            for breaths in (0, 5, 30, breaths_for(numbers)):
                self.assertOneOutcome(self.maker, numbers, breaths)

    def test_a_maker_made_small_still_makes_itself(self):
        code = small(self.maker)[0]
        told = by_machine(code, self.maker, breaths_for(self.maker))
        self.assertEqual(told, ("code", self.makers_code))

    def test_as_a_desk_tells_them(self):
        desk = Desk()
        for text in TEXTS:
            desk.say(f"take p {text}")
            sheet = sheet_of_text(text)
            roads = [" ".join(str(number) for number in code) for code in self.codes(sheet)]
            self.assertEqual([desk.say(f"{word} p") for word in ("make", "small", "own", "own")], roads)
            for given in GIVEN:
                behind = "".join(f" {number}" for number in given)
                for breaths in (0, 3, 100):
                    word, number, answer = run(sheet, given, breaths)
                    due = " ".join(str(thing) for thing in [word, number] + answer)
                    self.assertEqual(desk.say(f"run p {breaths}{behind}"), due)
                    self.assertEqual(desk.say(f"go p {breaths}{behind}"), due)


class ReadBack(unittest.TestCase):
    def test_programs(self):
        dice = random.Random(82)
        for sheet, told in random_programs(dice, 150):
            names = random_names(dice, told)
            self.assertEqual(read_text(show_text(names, sheet)), (names, sheet))
        for text in TEXTS + (own_text(),):
            names, sheet = read_text(text)
            self.assertEqual(read_text(show_text(names, sheet)), (names, sheet))

    def test_codes(self):
        dice = random.Random(83)
        sheets = [sheet for sheet, told in random_programs(dice, 100)] + [sheet_of_text(text) for text in TEXTS]
        for sheet in sheets + [own_sheet()]:
            for code in (made(sheet), small(sheet)[0]):
                self.assertEqual(read_code(show_code(code)), code)


class NothingChanged(unittest.TestCase):
    def asked(self, sheet, names, given, numbers, rows):
        """Each thing that can be asked with these, as (name, arguments)."""
        code, paper = made(sheet), made_paper(sheet)
        smaller, smaller_paper = small(sheet)
        body = functions(sheet)[0][2]
        return [
            (kind_of, ("add",)), (parts_of, (8,)), (word_of, (8,)),
            (wrong, (sheet,)), (wrong, (numbers,)), (functions, (sheet,)), (sheet_of, (functions(sheet),)),
            (nodes, (sheet,)), (show_text, (names, sheet)), (read_text, (show_text(names, sheet),)),
            (show_code, (code,)), (read_code, (show_code(code),)), (run, (sheet, given, 50)),
            (is_code, (code,)), (is_code, (numbers,)), (rows_of, (code,)), (heads_of, (code,)),
            (code_of, (heads_of(code), [list(row) for row in rows_of(code)])), (go, (code, given, 50, 9999)),
            (made, (sheet,)), (made_paper, (sheet,)), (meant, (rows, 0)), (fixed, (body,)),
            (lets_by, (sheet, code, paper)), (lets_by, (sheet, smaller, smaller_paper)), (enough, (sheet, code, 9)),
            (small, (sheet,)), (own_text, ()), (own_sheet, ()), (breaths_for, (numbers,)),
            (say, (("done", 3, list(given)),)), (say, (("told", 9, []),)), (by_runner, (sheet, numbers, 50)),
            (by_machine, (code, numbers, 50)), (by_runner, (own_sheet(), numbers, 600)),
            (say_due, (numbers,)), (say_due, (sheet,)), (chain, (numbers,)), (chain, (sheet,)),
            (parted, (own_sheet(), [numbers, sheet], 9999)), (parted, (sheet, [numbers, sheet], 50)),
        ]

    def all_asked(self):
        dice = random.Random(84)
        programs = [sheet_of_text(text) for text in TEXTS]
        programs += [sheet for sheet, told in random_programs(dice, 6, small_number) if len(sheet) < 200]
        for sheet in programs:
            names = random_names(dice, functions(sheet))
            numbers = dice.choice(([], [1, 0, 0, 20], [1, 0, 0, 19, 4], [5] * 20))
            yield self.asked(sheet, names, list(dice.choice(GIVEN)), list(numbers), [(4, 1), (0, 7), (7, 0)])

    def test_what_is_handed_in(self):
        for asked in self.all_asked():
            for ask, handed in asked:
                before = copy.deepcopy(handed)
                ask(*handed)
                self.assertEqual(handed, before, ask)

    def test_what_was_told_stays_and_is_told_again(self):
        for asked in self.all_asked():
            told = [ask(*handed) for ask, handed in asked]
            before = copy.deepcopy(told)
            again = [ask(*handed) for ask, handed in asked]
            self.assertEqual(again, before)
            for thing in again:
                self.spoil(thing)
            self.assertEqual(told, before)
            self.assertEqual([ask(*handed) for ask, handed in asked], before)

    def test_a_later_change_of_what_was_handed_in(self):
        for asked in self.all_asked():
            for ask, handed in asked:
                handed = copy.deepcopy(handed)
                told = ask(*handed)
                before = copy.deepcopy(told)
                self.spoil(handed)
                self.assertEqual(told, before, ask)

    def spoil(self, thing):
        """Changes every list within."""
        if isinstance(thing, (list, tuple)):
            for one in thing:
                self.spoil(one)
        if isinstance(thing, list):
            thing.append(5)
            thing.reverse()

    def test_at_desks(self):
        desk, other = Desk(), Desk()
        desk.say(f"take a {TEXTS[1]}")
        due = [desk.say(row) for row in ("show a", "make a", "small a", "own a", "run a 9 1 2", "go a 9 1 2")]
        sheet = sheet_of_text(TEXTS[1])
        sheet.clear()
        own_sheet().clear()
        other.say(f"take a {TEXTS[2]}")
        other.say("drop a")
        for row in ("take a nothing", "drop b", "run a -1", "own A"):
            with self.assertRaises(ChainError):
                desk.say(row)
        rows = ("show a", "make a", "small a", "own a", "run a 9 1 2", "go a 9 1 2")
        self.assertEqual([desk.say(row) for row in rows], due)


if __name__ == "__main__":
    unittest.main()
