"""Texts of codes [11], read and shown, and that nothing handed in is changed [2]."""

import random
import unittest

from ownchain.codes import code_of, is_code
from ownchain.codetexts import read_code, show_code
from ownchain.errors import ChainError, NoCode, NoText
from ownchain.maker import made
from programs import OPS, SIXTY, WORDS, random_programs

HUNDRED = 10 ** 100 - 1
DEEDS = [WORDS[kind] for kind in range(8, 20)]

# The words that a line may have, each with a number that fits a code of three functions and twenty rows.
WITH_NUMBER = {"push": "7", "get": "11", "set": "0", "jump": "19", "unless": "1", "call": "2", "pick": "12"}
ALONE = ("drop", "back", "fail", "breath")


def every_row():
    rows = [(0, -SIXTY), (0, 0), (1, 11), (2, 0), (3, 0), (4, 23), (5, 0), (6, 1), (7, 0), (8, 0), (9, 0), (11, 2)]
    return rows + [(10, kind) for kind in range(8, 20)]


class CodeTexts(unittest.TestCase):
    def assertReads(self, text, code):
        told = read_code(text)
        self.assertEqual(told, code, text)
        self.assertIs(type(told), list)
        self.assertEqual({type(number) for number in told}, {int})
        self.assertEqual(show_code(code), text)

    def assertNoText(self, text, at):
        with self.assertRaises(NoText, msg=text) as caught:
            read_code(text)
        self.assertIsInstance(caught.exception, ChainError)
        self.assertEqual(caught.exception.at, at, text)
        self.assertIs(type(caught.exception.at), int)

    def assertNoCode(self, text):
        with self.assertRaises(NoCode, msg=text) as caught:
            read_code(text)
        self.assertIsInstance(caught.exception, ChainError)

    def assertNoLine(self, line):
        """The line is none by itself, wherever it stands."""
        self.assertNoText(line, 0)
        self.assertNoText(f"fun 0 0 0\n{line}", 1)
        self.assertNoText(f"fun 0 0 0\n{line}\nback", 1)
        self.assertNoText(f"fun 0 0 0\nfun 1 0 0\npush 1\nback\n{line}\nback", 4)
        self.assertNoText(f"fun 0 0 0\nback\n{line}\n{line}", 2)


class Ordinary(CodeTexts):
    def test_the_least_code(self):
        self.assertReads("fun 0 0 0\nback", [1, 0, 0, 0, 7, 0])

    def test_every_row(self):
        text = (
            "fun 23 0 12\nfun 0 4 4\n"
            f"push -{SIXTY}\npush 0\nget 11\nset 0\ndrop\njump 23\nunless 0\ncall 1\nback\nfail\nbreath\npick 2\n"
            "add\nsub\nmul\nquo\nrest\nless\nsame\npush\nat\nput\nsize\nnew"
        )
        self.assertReads(text, code_of([(23, 0, 12), (0, 4, 4)], every_row()))

    def test_push_alone_is_a_deed(self):
        self.assertReads("fun 0 0 0\npush", [1, 0, 0, 0, 10, 15])
        self.assertReads("fun 0 0 0\npush 15", [1, 0, 0, 0, 0, 15])
        self.assertReads("fun 0 0 0\npush\npush 0\npush", [1, 0, 0, 0, 10, 15, 0, 0, 10, 15])

    def test_each_deed_by_its_word_alone(self):
        for kind, word in enumerate(DEEDS, start=8):
            self.assertReads(f"fun 0 0 0\n{word}", [1, 0, 0, 0, 10, kind])

    def test_one_to_sixteen_functions(self):
        for many in range(1, 17):
            heads = [(function % 3, min(function, 4), 12 - function % 8) for function in range(many)]
            lines = [f"fun {start} {params} {boxes}" for start, params, boxes in heads]
            rows = [(6, many - 1), (3, 0), (7, 0)]
            self.assertReads("\n".join(lines + [f"call {many - 1}", "drop", "back"]), code_of(heads, rows))

    def test_numbers_behind_push(self):
        for number in (0, 1, -1, 9, 10, -10, 100, SIXTY, -SIXTY, SIXTY + 1, -SIXTY - 1, HUNDRED, -HUNDRED):
            self.assertReads(f"fun 0 0 0\npush {number}\nback", [1, 0, 0, 0, 0, number, 7, 0])

    def test_numbers_behind_the_others(self):
        for word, op, least, most in (("get", 1, 0, 11), ("set", 2, 0, 11), ("jump", 4, 0, 2), ("unless", 5, 0, 2),
                                      ("call", 6, 0, 1), ("pick", 11, 2, 12)):
            for number in range(least, most + 1):
                text = f"fun 0 0 0\nfun 1 2 3\n{word} {number}\nback\nback"
                self.assertReads(text, [2, 0, 0, 0, 1, 2, 3, op, number, 7, 0, 7, 0])

    def test_many_rows(self):
        rows = [(4, number) for number in range(2000)]
        text = "fun 1999 0 0\n" + "\n".join(f"jump {number}" for number in range(2000))
        self.assertReads(text, code_of([(1999, 0, 0)], rows))

    def test_what_is_shown_is_read_as_the_same_code(self):
        dice = random.Random(11)
        for sheet, told in random_programs(dice, 200):
            code = made(sheet)
            before = list(code)
            self.assertReads(show_code(code), code)
            self.assertEqual(code, before)

    def test_what_is_shown_of_random_codes_is_read_as_the_same(self):
        dice = random.Random(12)
        most = {1: 11, 2: 11, 6: 0}
        for turn in range(200):
            many = dice.randint(1, 30)
            rows = []
            for row in range(many):
                op = dice.randrange(12)
                number = dice.randint(0, {4: many - 1, 5: many - 1}.get(op, most.get(op, 0)))
                number = {0: dice.randint(-HUNDRED, HUNDRED), 10: dice.randint(8, 19), 11: dice.randint(2, 12)}.get(
                    op, number)
                rows.append((op, number))
            code = code_of([(dice.randrange(many), 0, dice.randint(0, 12))], rows)
            self.assertReads(show_code(code), code)


class Refused(CodeTexts):
    def test_what_is_no_text(self):
        for thing in (None, 0, 7, True, [], ["fun 0 0 0", "back"], (), {}, b"fun 0 0 0\nback", [1, 0, 0, 0, 7, 0], 1.5):
            self.assertNoText(thing, 0)

    def test_an_empty_text(self):
        self.assertNoText("", 0)

    def test_empty_lines(self):
        self.assertNoLine("")
        self.assertNoText("\nfun 0 0 0\nback", 0)
        self.assertNoText("fun 0 0 0\n\nback", 1)
        self.assertNoText("fun 0 0 0\n\n\nback", 1)
        self.assertNoText("\n", 0)

    def test_a_line_end_behind(self):
        self.assertNoText("fun 0 0 0\nback\n", 2)
        self.assertNoText("fun 0 0 0\nback\n\n", 2)
        self.assertNoText("fun 0 0 0\n", 1)

    def test_blanks(self):
        lines = ["fun 0 0 0", "push 1", "get 0", "jump 0", "back", "add", "pick 2"]
        for line in lines:
            for bent in (f" {line}", f"{line} ", line.replace(" ", "  ", 1), line.replace(" ", "   "), f"  {line}"):
                if bent != line:
                    self.assertNoLine(bent)
            self.assertNoLine(line.replace(" ", "") if " " in line else line[0] + " " + line[1:])
        for line in ("fun 0  0 0", "fun 0 0  0", "fun  0 0 0", " ", "  "):
            self.assertNoLine(line)

    def test_other_signs_that_part(self):
        for sign in ("\t", "\r", "\v", "\f", "\x1c", "\x85", "\u2028", "\u00a0", "|", ","):
            self.assertNoLine(f"push{sign}1")
            self.assertNoLine(f"push 1{sign}")
            self.assertNoLine(f"back{sign}")
            self.assertNoText(f"fun 0 0 0{sign}back", 0)
        self.assertNoText("fun 0 0 0\r\nback", 0)

    def test_words_that_are_none(self):
        words = ["do", "all", "loop", "with", "is", "number", "Back", "BACK", "backs", "bac", "none", "None", "0", "7",
                 "-", "jumps", "funs", "k", "main", "(7, 0)", "drop0", "add1", "FUN", "~"]
        for word in words:
            for line in (word, f"{word} 0", f"{word} 1", f"{word} 8", f"{word} 0 0 0"):
                self.assertNoLine(line)

    def test_kinds_that_are_no_deeds(self):
        # Words of kinds below 8, alone: of these fail alone is an op that has no number.
        for kind in range(2, 8):
            if WORDS[kind] != "fail":
                self.assertNoLine(WORDS[kind])

    def test_a_number_too_few(self):
        for word in WITH_NUMBER:
            if word != "push":
                self.assertNoLine(word)
        for line in ("fun", "fun 0", "fun 0 0"):
            self.assertNoLine(line)

    def test_a_number_too_many(self):
        for word, number in WITH_NUMBER.items():
            self.assertNoLine(f"{word} {number} 0")
            self.assertNoLine(f"{word} {number} {number}")
        for word in ALONE:
            self.assertNoLine(f"{word} 0")
            self.assertNoLine(f"{word} 1")
        for word in DEEDS:
            if word != "push":
                self.assertNoLine(f"{word} 0")
                self.assertNoLine(f"{word} 8")
            self.assertNoLine(f"{word} 0 0")
        for line in ("fun 0 0 0 0", "fun 0 0 0 back", "back back", "push 1 drop", "add add"):
            self.assertNoLine(line)

    def test_numbers_that_are_none(self):
        others = ("01", "00", "-0", "+1", "-01", "--1", "-", "+", "1.0", "1e3", "0x1", "1_0", "a", "1a", "O", "(1)",
                  "\u0661", "\u00b2", "\uff11", "one", "True", "None", "1-")
        for number in others:
            for word in WITH_NUMBER:
                self.assertNoLine(f"{word} {number}")
            for line in (f"fun {number} 0 0", f"fun 0 {number} 0", f"fun 0 0 {number}"):
                self.assertNoLine(line)

    def test_figures_behind_push(self):
        for figures in (101, 102, 200, 5000):
            for sign in ("", "-"):
                self.assertNoLine(f"push {sign}{'1' * figures}")
                self.assertNoLine(f"push {sign}{'9' * figures}")

    def test_figures_elsewhere(self):
        for figures in (61, 62, 99, 100, 101, 5000):
            number = "1" * figures
            for word in WITH_NUMBER:
                if word != "push":
                    self.assertNoLine(f"{word} {number}")
                    self.assertNoLine(f"{word} -{number}")
            for line in (f"fun {number} 0 0", f"fun 0 {number} 0", f"fun 0 0 {number}", f"fun 0 0 -{number}"):
                self.assertNoLine(line)

    def test_sixty_figures_are_a_number(self):
        for number in (str(SIXTY), str(-SIXTY)):
            for word in WITH_NUMBER:
                if word != "push":
                    self.assertNoCode(f"fun 0 0 0\n{word} {number}")
            for line in (f"fun {number} 0 0", f"fun 0 {number} 0", f"fun 0 0 {number}"):
                self.assertNoCode(f"{line}\nback")

    def test_a_fun_line_behind_a_row(self):
        self.assertNoText("fun 0 0 0\nback\nfun 0 0 0", 2)
        self.assertNoText("back\nfun 0 0 0", 1)
        self.assertNoText("fun 0 0 0\nfun 0 0 0\npush 1\nback\nfun 0 0 0\nback", 4)
        self.assertNoText("fun 0 0 0\nback\nfun 0 0", 2)

    def test_the_first_of_two(self):
        self.assertNoText("fun 0 0\nbac", 0)
        self.assertNoText("fun 0 0 0\nbac\nfun", 1)
        self.assertNoText("fun 0 0 0\nback\nfun 0 0 0\nbac", 2)


class MakesNoCode(CodeTexts):
    def test_no_function(self):
        for text in ("back", "push 1\nback", "jump 0"):
            self.assertNoCode(text)

    def test_no_row(self):
        for many in (1, 2, 16, 17):
            self.assertNoCode("\n".join(["fun 0 0 0"] * many))

    def test_a_seventeenth_function(self):
        self.assertReads("\n".join(["fun 0 0 0"] * 16 + ["back"]), [16] + [0, 0, 0] * 16 + [7, 0])
        for many in (17, 18, 40):
            self.assertNoCode("\n".join(["fun 0 0 0"] * many + ["back"]))

    def test_heads(self):
        for head in ("2 0 0", "-1 0 0", "0 1 1", "0 -1 0", "0 0 13", "0 0 -1", "7 0 0"):
            self.assertNoCode(f"fun {head}\npush 1\nback")
            self.assertNoCode(f"fun {head}\nfun 0 0 0\npush 1\nback")
        for head in ("2 0 0", "-1 0 0", "0 5 12", "0 -1 0", "0 0 13", "0 2 1", "0 4 3", "0 0 -1"):
            self.assertNoCode(f"fun 0 0 0\nfun {head}\npush 1\nback")

    def test_numbers_of_rows(self):
        bad = ["get 12", "get -1", "set 12", "set -1", "jump 2", "jump -1", "unless 2", "unless -1", "call 2",
               "call -1", "pick 1", "pick 13", "pick 0", "pick -2", f"call {SIXTY}"]
        for row in bad:
            self.assertNoCode(f"fun 0 0 0\nfun 0 0 0\n{row}\nback")
            self.assertNoCode(f"fun 0 0 0\nfun 0 0 0\nback\n{row}")

    def test_no_text_goes_ahead(self):
        self.assertNoText("back\nbac", 1)
        self.assertNoText("fun 9 9 9\nget 99\njump 99\n", 3)
        self.assertNoText("\n".join(["fun 0 0 0"] * 20 + ["back", "back 0"]), 21)
        self.assertNoText("fun 0 0 0\nget 12\nfun 0 0 0", 2)
        self.assertNoText("fun 0 0 0\nfun 0 0", 1)

    def test_show_code_of_what_is_none(self):
        for thing in ([], [0], [1, 0, 0, 0], [1, 0, 0, 0, 7], [1, 0, 0, 0, 7, 1], [1, 0, 1, 1, 7, 0], None, 7, "back",
                      (1, 0, 0, 0, 7, 0), [1, 0, 0, 0, 4, 1], [1, 0, 0, 0, 10, 7], [1, 0, 0, 0, 12, 0],
                      [17] + [0, 0, 0] * 17 + [7, 0], [True, 0, 0, 0, 7, 0]):
            with self.assertRaises(NoCode, msg=thing) as caught:
                show_code(thing)
            self.assertIsInstance(caught.exception, ChainError)


class BentTexts(CodeTexts):
    """A text's signs changed one by one: it is refused, or what is read is a code whose text it is."""

    def test_bent(self):
        dice = random.Random(14)
        text = show_code(code_of([(23, 0, 12), (0, 4, 4)], every_row()))
        read = 0
        for turn in range(4000):
            at, sign = dice.randrange(len(text)), dice.choice("0123456789- \nabdefgjklnpstuw")
            bent = text[:at] + sign + text[at + dice.randrange(2):]
            try:
                code = read_code(bent)
            except (NoText, NoCode):
                continue
            self.assertTrue(is_code(code))
            self.assertEqual(show_code(code), bent)
            read += 1
        self.assertGreater(read, 50)


class NothingChanged(CodeTexts):
    def test_what_was_told_is_the_askers_own(self):
        text = "fun 0 0 0\npush 4\nback"
        told, kept = read_code(text), read_code(text)
        told[5] = 9
        told.clear()
        self.assertEqual(kept, [1, 0, 0, 0, 0, 4, 7, 0])
        self.assertEqual(read_code(text), kept)
        shown = show_code(kept)
        kept[5] = 5
        self.assertEqual(shown, text)
        self.assertEqual(show_code(kept), "fun 0 0 0\npush 5\nback")

    def test_the_code_is_as_it_was(self):
        for code in ([1, 0, 0, 0, 0, 4, 7, 0], [1, 0, 0, 0, 0, 4, 7], [[1]]):
            before = list(code)
            try:
                show_code(code)
            except NoCode:
                pass
            self.assertEqual(code, before)

    def test_the_words_of_the_ops(self):
        lines = show_code(code_of([(0, 0, 0)], [(op, {10: 8, 11: 2}.get(op, 0)) for op in range(12)])).split("\n")
        words = [line.split(" ")[0] for line in lines[1:]]
        self.assertEqual(words, [word if word != "do" else "add" for word in OPS])


if __name__ == "__main__":
    unittest.main()
