"""The desk [31]: each row's answer signs for signs, its refusals, and that desks know nothing of each other [2]."""

import copy
import random
import unittest
import unittest.mock

from ownchain.desk import Desk
from ownchain.errors import ChainError, NoName, NoRow, NoText
from ownchain.machine import go
from ownchain.maker import made
from ownchain.own import own_text
from ownchain.papers import enough
from ownchain.runner import run
from ownchain.small import small
from ownchain.texts import read_text, show_text
from programs import RESERVED, SIXTY, random_names, random_programs, second_wrong, small_number

SQUARE = "fun main with k is all 2 set k add k 1 call more k fun more n with is mul n n"
DOUBLE = "fun m with k is all 2 loop less k size 0 all 2 push 1 mul at 0 k 2 set k add k 1 k"
TWO_WORD_ROWS = ("drop", "show", "make", "small", "own")


def numbers_of(text):
    return [int(word) for word in text.split(" ")]


class AtADesk(unittest.TestCase):
    def setUp(self):
        self.desk = Desk()

    def assertSaid(self, row, due):
        told = self.desk.say(row)
        self.assertIs(type(told), str)
        self.assertEqual(told, due, row)

    def state(self):
        """All that the desk tells of what it keeps."""
        names = self.desk.say("names")
        return names, [(self.desk.say(f"show {name}"), self.desk.say(f"make {name}")) for name in self.standing()]

    def standing(self):
        names = self.desk.say("names")
        return [] if names == "none" else names.split(" ")

    def assertRefused(self, row, refusal, at=None):
        before = self.state()
        with self.assertRaises(ChainError) as caught:
            self.desk.say(row)
        self.assertIs(type(caught.exception), refusal, row)
        if refusal is NoText:
            self.assertEqual(caught.exception.at, at, row)
        self.assertEqual(self.state(), before)

    def take(self, name, text):
        self.assertSaid(f"take {name} {text}", "ok")


class Rows(AtADesk):
    def test_take_and_show(self):
        self.take("a", SQUARE)
        self.assertSaid("show a", SQUARE)
        self.take("b", "fun m with is 7")
        self.assertSaid("show b", "fun m with is 7")
        self.assertSaid("show a", SQUARE)

    def test_a_text_of_several_lines(self):
        text = "fun main with k is\n  all 2\n    set k add k 1\n    call more k\n\nfun more n with is\n  mul n n\n"
        self.take("a", text)
        self.assertSaid("show a", SQUARE)
        self.assertSaid("run a 5", "done 1")

    def test_a_text_with_more_blanks(self):
        self.take("a", "  fun   m with is  7 ")
        self.assertSaid("show a", "fun m with is 7")
        self.take("b", "\nfun m with is 8\n")
        self.assertSaid("show b", "fun m with is 8")
        self.assertSaid("take c   fun m with is 9", "ok")
        self.assertSaid("show c", "fun m with is 9")

    def test_take_over_a_name_that_is_there(self):
        self.take("a", SQUARE)
        self.take("a", "fun m with is 7")
        self.assertSaid("show a", "fun m with is 7")
        self.assertSaid("run a 1", "done 7")
        self.assertSaid("names", "a")

    def test_drop(self):
        self.take("a", SQUARE)
        self.take("b", DOUBLE)
        self.assertSaid("drop a", "ok")
        self.assertSaid("names", "b")
        self.assertRefused("show a", NoName)
        self.assertRefused("drop a", NoName)
        self.take("a", "fun m with is 3")
        self.assertSaid("show a", "fun m with is 3")
        self.assertSaid("show b", DOUBLE)

    def test_names(self):
        self.assertSaid("names", "none")
        for name in ("b", "ab", "z", "a", "abcdefgh", "none", "main", "ba", "take", "names"):
            self.take(name, SQUARE)
        self.assertSaid("names", "a ab abcdefgh b ba main names none take z")
        for name in ("b", "ab", "z", "abcdefgh", "none", "main", "ba", "take", "names"):
            self.assertSaid(f"drop {name}", "ok")
        self.assertSaid("names", "a")
        self.assertSaid("drop a", "ok")
        self.assertSaid("names", "none")

    def test_run_and_go(self):
        self.take("d", DOUBLE)
        for word in ("run", "go"):
            self.assertSaid(f"{word} d 100 5 6 7", "done 3 10 12 14")
            self.assertSaid(f"{word} d 100", "done 0")
            self.assertSaid(f"{word} d 3 5 6 7", "breath 0 10 12")
            self.assertSaid(f"{word} d 0 5 6 7", "breath 0")
            self.assertSaid(f"{word} d 20000 -5 0 {SIXTY}", f"done 3 -10 0 {2 * SIXTY}")
            self.assertSaid(f"{word} d 20000 -{SIXTY}", f"done 1 -{2 * SIXTY}")

    def test_each_outcome(self):
        for body, due in (
            ("7", "done 7"), ("-7", "done -7"), (f"{SIXTY}", f"done {SIXTY}"), ("fail 5", "told 5"),
            ("fail -5", "told -5"), ("fail 0", "told 0"), ("quo 1 0", "zero 0"), ("at 2 0", "row 0"),
            ("at 1 0", "place 0"), ("call m", "deep 0"), ("loop 1 2", "breath 0"),
            (f"mul {SIXTY} {SIXTY}", "great 0"), ("all 2 push 1 3 fail 4", "told 4 3"),
            (f"mul {SIXTY} {10 ** 40}", f"done {SIXTY * 10 ** 40}"), ("push 1 sub 2 3", "done -1 -1"),
            ("all 3 push 1 1 push 1 -2 new", "done 2 1 -2"), ("size 0", "done 0"),
        ):
            self.take("a", f"fun m with is {body}")
            self.assertSaid("run a 100", due)
            self.assertSaid("go a 100", due)

    def test_what_is_given_stays_in_its_order(self):
        self.take("a", "fun m with k is all 2 loop less k size 0 all 2 push 1 at 0 k set k add k 1 size 0")
        self.assertSaid("run a 50 3 -1 0 2 2", "done 5 3 -1 0 2 2")
        self.assertSaid("go a 50 3 -1 0 2 2", "done 5 3 -1 0 2 2")

    def test_make_small_and_own(self):
        self.take("a", "fun m with k is add k add 1 2")
        self.assertSaid("make a", "1 0 0 1 1 0 0 1 0 2 10 8 10 8 7 0")
        self.assertSaid("own a", "1 0 0 1 1 0 0 1 0 2 10 8 10 8 7 0")
        self.assertSaid("small a", "1 0 0 1 1 0 0 3 10 8 7 0")
        for text in (SQUARE, DOUBLE, "fun m with k is pick 2 k add 1 2 -3", own_text()):
            sheet = read_text(text)[1]
            self.take("b", text)
            for turn in range(2):
                self.assertEqual(numbers_of(self.desk.say("make b")), made(sheet))
                self.assertEqual(numbers_of(self.desk.say("own b")), made(sheet))
                self.assertEqual(numbers_of(self.desk.say("small b")), small(sheet)[0])

    def test_ask(self):
        for numbers, due in (
            ("", "0 end"), (" 1", "1 end"), (" 17", "0 range"), (" 1 0 0 19", "sheet"), (" 1 0 0 19 4", "4 over"),
            (" 1 0 0" + " 18" * 10, "13 deep"), (f" 1 0 0 0 {SIXTY}", "sheet"), (f" 1 0 0 0 -{SIXTY}", "sheet"),
            (f" 1 0 0 {SIXTY}", "3 range"), (" -1", "0 range"), (" 1 0 0", "3 end"),
        ):
            self.assertSaid(f"ask{numbers}", due)
        self.assertSaid("names", "none")

    def test_ask_of_random_lists(self):
        dice = random.Random(71)
        for sheet, told in random_programs(dice, 100):
            for turn in range(3):
                found = second_wrong(sheet)
                row = " ".join(["ask"] + [str(number) for number in sheet])
                self.assertSaid(row, "sheet" if found is None else f"{found[0]} {found[1]}")
                sheet[dice.randrange(len(sheet))] = dice.randint(-1, 20)

    def test_random_programs(self):
        dice = random.Random(72)
        for sheet, told in random_programs(dice, 120, small_number):
            names = random_names(dice, told)
            text = show_text(names, sheet)
            self.take("a", text)
            self.assertSaid("show a", text.replace("\n", " "))
            self.assertSaid("make a", " ".join(str(number) for number in made(sheet)))
            self.assertSaid("small a", " ".join(str(number) for number in small(sheet)[0]))
            for breaths in (0, 1, 2, 9):
                word, number, answer = run(sheet, [4, 0, -2], breaths)
                due = " ".join(str(thing) for thing in [word, number] + answer)
                self.assertSaid(f"run a {breaths} 4 0 -2", due)
                self.assertSaid(f"go a {breaths} 4 0 -2", due)

    def test_own_of_random_programs(self):
        dice = random.Random(73)
        for sheet, told in random_programs(dice, 25):
            self.take("a", show_text(random_names(dice, told), sheet))
            self.assertSaid("own a", " ".join(str(number) for number in made(sheet)))

    def test_go_has_rows_enough(self):
        # Many rows for each breath: a loop whose second part is long.
        body = "all 12 " + " ".join(["all 12 " + " ".join(["k"] * 12)] * 12)
        self.take("a", f"fun m with k is loop less k 40 all 2 {body} set k add k 1")
        sheet = read_text(f"fun m with k is loop less k 40 all 2 {body} set k add k 1")[1]
        code = made(sheet)
        self.assertEqual(go(code, [], 60, enough(sheet, code, 60))[0], "done")
        self.assertSaid("go a 60", "done 0")
        self.assertSaid("go a 20000", "done 0")
        self.assertSaid("go a 41", "breath 0")
        self.assertSaid("go a 42", "done 0")


class ByWhichRoad(AtADesk):
    """What is promised to be alike is told apart by taking one road away."""

    def without(self, name):
        def taken_away(*handed):
            raise AssertionError(name)
        return unittest.mock.patch(f"ownchain.desk.{name}", taken_away)

    def test_run_is_done_by_the_runner_and_go_by_the_machine(self):
        self.take("a", SQUARE)
        with self.without("go"):
            self.assertSaid("run a 5", "done 1")
            self.assertRaises(AssertionError, self.desk.say, "go a 5")
        with self.without("run"):
            self.assertSaid("go a 5", "done 1")
            self.assertRaises(AssertionError, self.desk.say, "run a 5")

    def test_own_is_made_on_the_machine_and_make_by_the_maker(self):
        self.take("a", "fun m with is 7")
        with self.without("by_machine"):
            self.assertSaid("make a", "1 0 0 0 0 7 7 0")
            self.assertRaises(AssertionError, self.desk.say, "own a")


class NoRows(AtADesk):
    def setUp(self):
        AtADesk.setUp(self)
        self.take("a", SQUARE)
        self.take("d", DOUBLE)

    def assertNoRow(self, *rows):
        for row in rows:
            self.assertRefused(row, NoRow)

    def test_what_is_no_text(self):
        self.assertNoRow(None, 7, True, ["names"], ("names",), {"names": 1}, b"names", 0, [])

    def test_another_first_word(self):
        self.assertNoRow("", " ", "name", "Names", "NAMES", "rum a 5", "fun m with is 7", "7", "takes a b", "list")
        self.assertNoRow("names\n", "\nnames", "ask\n", "take\na 5", "show\na", "drop\ta", "taken a fun m with is 7")

    def test_too_few_words(self):
        self.assertNoRow("take", "take ", "take a", "take d", "run", "run a", "go", "go a")
        self.assertNoRow(*TWO_WORD_ROWS)

    def test_too_many_words(self):
        self.assertNoRow("names a", "names names", "names 5")
        for word in TWO_WORD_ROWS:
            self.assertNoRow(f"{word} a d", f"{word} a 5", f"{word} a a a")

    def test_two_blanks(self):
        for word in TWO_WORD_ROWS:
            self.assertNoRow(f"{word}  a", f"{word}   a")
        self.assertNoRow("run a  5", "run a 5  6", "go a  5 6", "go a 5 6  7", "ask  1", "ask 1  0", "names  a")

    def test_a_blank_ahead(self):
        self.assertNoRow(" names", " ask", " ask 1", " show a", " run a 5", f" take b {SQUARE}", "  names")

    def test_a_blank_behind(self):
        self.assertNoRow("names ", "ask ", "ask 1 ", "run a 5 ", "run a 5 6 ", "go a 5 ", "go a ", "run a ")
        for word in TWO_WORD_ROWS:
            self.assertNoRow(f"{word} a ")

    def test_words_ahead_of_names(self):
        """By its words a row is refused ahead of what they tell."""
        self.assertNoRow("take", "take 7", "drop b c", "show Z 5", "run b", "go 7", "own  b", "small b ", "make b b")

    def test_numbers(self):
        for word in (
            "00", "01", "-0", "+1", "-01", "--1", "-", "1.", "1e3", "0x1", "x", "a", "1_0", "", "5\n", "\n5",
            "\u0661", "\u00b2",
            "1" + "0" * 60, "-1" + "0" * 60, "9" * 100, "none", "1,2",
        ):
            self.assertNoRow(f"ask {word}", f"ask 1 0 {word} 19", f"ask {word} 1")
            for way in ("run", "go"):
                self.assertNoRow(f"{way} a {word}", f"{way} a {word} 5", f"{way} a 5 {word}", f"{way} a 5 1 {word} 2")

    def test_sixty_figures(self):
        for number in (SIXTY, -SIXTY, 10 ** 59, -10 ** 59):
            self.assertSaid(f"ask {number}", "0 range")
            self.assertSaid(f"run d 9 {number}", f"done 1 {2 * number}")
            self.assertNoRow(f"ask {number}0", f"run d 9 {number}0", f"go d 9 {number}0", f"go d {number}")

    def test_breaths(self):
        for word in ("run", "go"):
            for breaths in (-1, -20000, 20001, 20010, SIXTY, -SIXTY):
                self.assertNoRow(f"{word} a {breaths}", f"{word} a {breaths} 5 6")
            for breaths in (0, 1, 19999, 20000):
                self.assertSaid(f"{word} a {breaths}", "done 1" if breaths > 1 else "breath 0")
            # The numbers that are given are not bound so.
            self.assertSaid(f"{word} d 9 -1 20001", "done 2 -2 40002")


class NoNames(AtADesk):
    def setUp(self):
        AtADesk.setUp(self)
        self.take("a", SQUARE)

    def assertNoName(self, *rows):
        for row in rows:
            self.assertRefused(row, NoName)

    def test_names_that_are_none(self):
        none = RESERVED + ["A", "aB", "abcdefghi", "a1", "7", "", "a-b", "a\n", "\na", "a_b", "\u00e9", "-1", "0"]
        for name in none:
            self.assertNoName(f"take {name} {SQUARE}")
            if name != "":
                self.assertNoName(f"run {name} 5", f"go {name} 5 6")
                for word in TWO_WORD_ROWS:
                    self.assertNoName(f"{word} {name}")

    def test_a_name_without_signs(self):
        self.assertNoName(f"take  {SQUARE}", "take  ", "take  a", "run  a 5", "go  a 5", "run  5")
        self.assertNoName("show ", "drop ", "make ", "small ", "own ")

    def test_names_by_which_none_stands(self):
        for name in ("b", "aa", "none", "main", "more", "names"):
            self.assertNoName(f"run {name} 5", f"go {name} 5")
            for word in TWO_WORD_ROWS:
                self.assertNoName(f"{word} {name}")

    def test_names_of_eight_letters(self):
        self.take("abcdefgh", SQUARE)
        self.assertSaid("show abcdefgh", SQUARE)

    def test_ahead_of_numbers(self):
        for word in ("run", "go"):
            for behind in ("b x", "b -1", "b 20001", "b 5 00", "7 7", "B ", "b 5 ", "b  5"):
                self.assertNoName(f"{word} {behind}")

    def test_ahead_of_the_text(self):
        self.assertNoName("take 7 fun", "take A ", "take fun nothing", "take  nothing")


class NoTexts(AtADesk):
    def setUp(self):
        AtADesk.setUp(self)
        self.take("a", SQUARE)

    def test_the_number_of_the_word_within_the_text(self):
        for text, at in (
            ("", 0), (" ", 0), ("\n", 0), ("nothing", 0), ("fun", 1), ("fun m with is", 4), ("fun m with is x", 4),
            ("fun m a with is 7", 2), ("fun m with is 7 8", 5), ("fun m with is add 1", 6), ("fun m with is 07", 4),
            ("  fun m\n\nwith is  \n bad", 4), ("fun m with is" + " size" * 10, 14), ("fun m with is call f", 5),
        ):
            self.assertRefused(f"take b {text}", NoText, at)
            self.assertRefused(f"take a {text}", NoText, at)

    def test_nothing_stands_by_a_new_name(self):
        self.assertRefused("take b fun", NoText, 1)
        self.assertSaid("names", "a")
        self.assertRefused("show b", NoName)
        self.assertSaid("show a", SQUARE)

    def test_other_signs_part_no_words(self):
        self.assertRefused("take b fun\tm with is 7", NoText, 0)
        self.assertRefused("take b fun m with is\r7", NoText, 3)


class TwoDesks(AtADesk):
    def test_they_know_nothing_of_each_other(self):
        other = Desk()
        self.take("a", SQUARE)
        self.assertEqual(other.say("names"), "none")
        with self.assertRaises(NoName):
            other.say("show a")
        self.assertEqual(other.say(f"take a {DOUBLE}"), "ok")
        self.assertEqual(other.say("take b fun m with is 7"), "ok")
        self.assertSaid("show a", SQUARE)
        self.assertSaid("names", "a")
        self.assertSaid("drop a", "ok")
        self.assertEqual(other.say("show a"), DOUBLE)
        self.assertEqual(other.say("names"), "a b")
        self.assertEqual(Desk().say("names"), "none")

    def test_what_was_asked_changes_no_later_answer(self):
        self.take("a", DOUBLE)
        rows = ("names", "show a", "make a", "small a", "own a", "run a 9 1 2", "go a 9 1 2", "ask 1 0", "run a 2 1 2")
        due = {row: self.desk.say(row) for row in rows}
        dice = random.Random(74)
        for turn in range(60):
            row = dice.choice(rows)
            self.assertSaid(row, due[row])

    def test_a_row_is_not_changed(self):
        row = f"take a {SQUARE}"
        before = copy.copy(row)
        self.desk.say(row)
        self.assertEqual(row, before)


class ManyRows(AtADesk):
    def test_beside_a_desk_of_another_make(self):
        """Takes, drops and refusals in any order: the names and texts as a dict keeps them."""
        dice = random.Random(75)
        kept = {}
        for turn in range(1500):
            name = dice.choice(("a", "b", "c", "dd", "D", "set"))
            body = dice.choice(("7", "size 0", "nothing", "add 1"))
            word = dice.choice(("take", "drop", "show", "names"))
            if word == "take":
                text = f"fun m with is {body}"
                if name in ("D", "set"):
                    self.assertRefused(f"take {name} {text}", NoName)
                elif body in ("nothing", "add 1"):
                    self.assertRefused(f"take {name} {text}", NoText, 4 if body == "nothing" else 6)
                else:
                    self.take(name, text)
                    kept[name] = text
            elif word == "names":
                self.assertSaid("names", " ".join(sorted(kept)) if kept else "none")
            elif name not in kept:
                self.assertRefused(f"{word} {name}", NoName)
            elif word == "drop":
                self.assertSaid(f"drop {name}", "ok")
                kept.pop(name)
            else:
                self.assertSaid(f"show {name}", kept[name])


if __name__ == "__main__":
    unittest.main()
