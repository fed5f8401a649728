"""Texts [8] to [10], read and shown, and that nothing handed in is changed [2]."""

import copy
import random
import unittest

from ownchain.errors import ChainError, NoSheet, NoText
from ownchain.sheets import wrong
from ownchain.texts import read_text, show_text
from programs import RESERVED, SIXTY, TWO_PARTS, WORDS, random_names, random_programs, second_read

EXAMPLE = "fun main with k is all 2 set k add k 1 call more k fun more n with is mul n n"
EXAMPLE_NAMES = (("main", ("k",)), ("more", ("n",)))
EXAMPLE_SHEET = [2, 0, 1, 1, 1, 3, 2, 2, 0, 8, 1, 0, 0, 1, 6, 1, 1, 0, 10, 1, 0, 1, 0]
LETTERS = "abcdefghijklmnop"


def body_sheet(body, boxes=0):
    return [1, 0, boxes] + body


def text_of(many, body="new"):
    return " ".join(f"fun {letter} with is {body}" for letter in LETTERS[:many])


class Reading(unittest.TestCase):
    def assertRead(self, text, names, sheet):
        told = read_text(text)
        self.assertEqual(told, (names, sheet), text)
        self.assertEqual([type(thing) for thing in told], [tuple, list])

    def assertBody(self, body, numbers):
        self.assertRead(f"fun main with k j is {body}", (("main", ("k", "j")),), body_sheet(numbers, 2))

    def assertAt(self, at, text):
        with self.assertRaises(NoText) as caught:
            read_text(text)
        self.assertIsInstance(caught.exception, ChainError)
        self.assertEqual(caught.exception.at, at, text)
        self.assertIs(type(caught.exception.at), int)


class Programs(Reading):
    def test_the_documents_example(self):
        self.assertRead(EXAMPLE, EXAMPLE_NAMES, EXAMPLE_SHEET)

    def test_the_least_program(self):
        self.assertRead("fun a with is 0", (("a", ()),), [1, 0, 0, 0, 0])

    def test_one_to_sixteen_functions(self):
        for many in range(1, 17):
            names = tuple((letter, ()) for letter in LETTERS[:many])
            self.assertRead(text_of(many), names, [many] + [0, 0] * many + [19] * many)

    def test_each_kind_of_node(self):
        self.assertBody("7", [0, 7])
        self.assertBody("k", [1, 0])
        self.assertBody("j", [1, 1])
        self.assertBody("set j 4", [2, 1, 0, 4])
        self.assertBody("all 3 k j 5", [3, 3, 1, 0, 1, 1, 0, 5])
        self.assertBody("pick 2 k j 5", [4, 2, 1, 0, 1, 1, 0, 5])
        self.assertBody("loop k new", [5, 1, 0, 19])
        self.assertBody("call main", [6, 0])
        self.assertBody("fail -3", [7, 0, -3])
        for kind in TWO_PARTS:
            self.assertBody(f"{WORDS[kind]} k 2", [kind, 1, 0, 0, 2])
        self.assertBody("put k j 2", [17, 1, 0, 1, 1, 0, 2])
        self.assertBody("size k", [18, 1, 0])
        self.assertBody("new", [19])

    def test_how_many_of_all_and_pick(self):
        for many in range(1, 13):
            self.assertBody(f"all {many}" + " new" * many, [3, many] + [19] * many)
        for many in range(2, 13):
            self.assertBody(f"pick {many} k" + " new" * many, [4, many, 1, 0] + [19] * many)

    def test_params_and_boxes(self):
        for params in range(5):
            for boxes in range(params, 13):
                box_names = tuple(LETTERS[:boxes])
                own = " ".join(("a",) + box_names[:params] + ("with",) + box_names[params:])
                names = (("m", ()), ("a", box_names))
                self.assertRead(f"fun m with is new fun {own} is new", names, [2, 0, 0, params, boxes, 19, 19])
        twelve = " ".join(LETTERS[:12])
        self.assertRead(f"fun m with {twelve} is l", (("m", tuple(LETTERS[:12])),), [1, 0, 12, 1, 11])

    def test_names_of_one_to_eight_letters(self):
        for name in ("a", "z", "az", "abcdefgh", "stuvwxyz", "zzzzzzzz", "funs", "wit", "iss", "sets", "do", "get"):
            self.assertRead(f"fun {name} with is new", ((name, ()),), [1, 0, 0, 19])
            self.assertRead(f"fun m with {name} is {name}", (("m", (name,)),), [1, 0, 1, 1, 0])

    def test_names_alike_between_functions_and_boxes(self):
        text = "fun a with b a is call b a b fun b a c with b is add call a set b a"
        names = (("a", ("b", "a")), ("b", ("a", "c", "b")))
        self.assertRead(text, names, [2, 0, 2, 2, 3] + [6, 1, 1, 1, 1, 0] + [8, 6, 0, 2, 2, 1, 0])

    def test_a_call_of_a_function_that_comes_later(self):
        text = "fun a with is all 3 call c 1 2 call b call a fun b with is call c 3 call b fun c x y with is call c y x"
        sheet = [3, 0, 0, 0, 0, 2, 2]
        sheet += [3, 3, 6, 2, 0, 1, 0, 2, 6, 1, 6, 0] + [6, 2, 0, 3, 6, 1] + [6, 2, 1, 1, 1, 0]
        self.assertRead(text, (("a", ()), ("b", ()), ("c", ("x", "y"))), sheet)

    def test_a_call_of_the_sixteenth_function(self):
        text = text_of(15, "call p 1 2 3 4") + " fun p a b c d with is call a"
        calls = [6, 15, 0, 1, 0, 2, 0, 3, 0, 4] * 15
        self.assertEqual(read_text(text)[1], [16] + [0, 0] * 15 + [4, 4] + calls + [6, 0])

    def test_ten_deep(self):
        self.assertBody("size " * 9 + "k", [18] * 9 + [1, 0])
        self.assertBody("set k " * 9 + "3", [2, 0] * 9 + [0, 3])
        self.assertBody("size " * 9 + "call main", [18] * 9 + [6, 0])

    def test_numbers(self):
        for number in (0, 1, 9, 10, 100, 101, 90210, 10 ** 59, SIXTY):
            self.assertBody(f"{number}", [0, number])
            if number > 0:
                self.assertBody(f"-{number}", [0, -number])
        for figures in range(1, 61):
            number = int("1234567890" * 6) // 10 ** (60 - figures)
            self.assertEqual(len(str(number)), figures)
            self.assertBody(f"sub {number} -{number}", [9, 0, number, 0, -number])

    def test_blanks_and_line_ends(self):
        words = EXAMPLE.split(" ")
        for parted in (" ", "\n", "  ", "\n\n", " \n", "\n ", "\n  \n\n "):
            for around in ("", " ", "\n", "  \n ", "\n\n"):
                self.assertRead(around + parted.join(words), EXAMPLE_NAMES, EXAMPLE_SHEET)
                self.assertRead(parted.join(words) + around, EXAMPLE_NAMES, EXAMPLE_SHEET)
                self.assertRead(around + parted.join(words) + around, EXAMPLE_NAMES, EXAMPLE_SHEET)

    def test_of_what_kinds_it_is(self):
        names, sheet = read_text(EXAMPLE)
        self.assertIs(type(names), tuple)
        for named in names:
            self.assertEqual([type(thing) for thing in named], [str, tuple])
            self.assertEqual({type(box) for box in named[1]}, {str})
        self.assertEqual({type(number) for number in sheet}, {int})
        self.assertIsNone(wrong(sheet))

    def test_a_text_of_twelve_thousand_signs(self):
        body = "all 10" + (" all 12" + " all 8 1 2 3 4 5 6 7 8" * 12) * 10
        numbers = [3, 10] + ([3, 12] + [3, 8, 0, 1, 0, 2, 0, 3, 0, 4, 0, 5, 0, 6, 0, 7, 0, 8] * 12) * 10
        text = " ".join(f"fun {letter} with is {body}" for letter in LETTERS[:4])
        text += " " * (12000 - len(text))
        self.assertEqual(len(text), 12000)
        self.assertEqual(read_text(text)[1], [4] + [0, 0] * 4 + numbers * 4)


class Refusals(Reading):
    def assertMarked(self, text):
        """The word at which the text is refused has a `^` ahead; at its end a `^` alone stands for none."""
        words = text.split()
        marked = [at for at, word in enumerate(words) if word.startswith("^")]
        self.assertEqual(len(marked), 1, text)
        self.assertAt(marked[0], text.replace("^", ""))

    def assertBodyMarked(self, body):
        self.assertMarked(f"fun main with k j is {body}")

    def test_no_text(self):
        for thing in (None, 0, 7, True, [], ["fun"], (), {}, b"fun a with is 0", list(EXAMPLE), 1.5, str):
            self.assertAt(0, thing)

    def test_no_words(self):
        for text in ("", " ", "\n", "  \n \n"):
            self.assertAt(0, text)

    def test_a_first_word_other_than_fun(self):
        for word in ("main", "with", "is", "7", "new", "Fun", "funs", "fu", "~", "FUN"):
            self.assertMarked(f"^{word}")
            self.assertMarked(f"^{word} main with is 0")
            self.assertMarked(f"^{word} fun main with is 0")

    def test_names_that_are_none(self):
        wrong_names = ["A", "Aa", "aA", "abcdefghi", "a1", "1", "7a", "a-b", "a_b", "~", "-", "a.", "!", "zzzzzzzzz"]
        for word in wrong_names + RESERVED:
            self.assertMarked(f"fun ^{word} with is 0")
            self.assertMarked(f"fun a with is 0 fun ^{word} with is 0")
            self.assertMarked(f"fun a with b c is 0 fun d with is 0 fun ^{word}")
            if word != "with":
                self.assertMarked(f"fun a with is 0 fun b ^{word} with is 0")
                self.assertMarked(f"fun a with is 0 fun b x ^{word} with is 0")
            if word != "is":
                self.assertMarked(f"fun a with ^{word} is 0")
                self.assertMarked(f"fun a with b ^{word} is 0")
                self.assertMarked(f"fun a with is 0 fun b x with ^{word} is 0")

    def test_a_name_that_is_there_already(self):
        self.assertMarked("fun a with is 0 fun ^a with is 0")
        self.assertMarked("fun a with is 0 fun b with is 0 fun ^a with is 0")
        self.assertMarked("fun a with is 0 fun b with is 0 fun ^b with is 0")
        self.assertMarked("fun a with b ^b is 0")
        self.assertMarked("fun a with b c ^b is 0")
        self.assertMarked("fun a with is 0 fun b x ^x with is 0")
        self.assertMarked("fun a with is 0 fun b x with ^x is 0")
        self.assertMarked("fun a with is 0 fun b x y with z ^x is 0")

    def test_the_seventeenth_fun(self):
        for behind in ("", " q", " q with is new", " a", " Q"):
            self.assertMarked(f"{text_of(16)} ^fun{behind}")
        self.assertMarked(f"{text_of(16)} ^new")
        self.assertMarked(f"{text_of(16, 'call q')} ^fun q with is new")

    def test_a_param_of_the_first_function(self):
        self.assertMarked("fun a ^b with is 0")
        self.assertMarked("fun a ^b")
        self.assertMarked("fun a ^a with is 0")

    def test_a_fifth_param(self):
        self.assertEqual(read_text("fun m with is 0 fun a b c d e with is 0")[1], [2, 0, 0, 4, 4, 0, 0, 0, 0])
        self.assertMarked("fun m with is 0 fun a b c d e ^f with is 0")
        self.assertMarked("fun m with is 0 fun a b c d e ^f")
        self.assertMarked("fun m with is call a 1 2 3 4 5 fun a b c d e ^f with is 0")

    def test_the_thirteenth_box(self):
        self.assertMarked("fun z with a b c d e f g h i j k l ^m is 0")
        self.assertMarked("fun z with a b c d e f g h i j k l ^m")
        self.assertMarked("fun y with is 0 fun z a b c d with e f g h i j k l ^m is 0")
        self.assertMarked("fun y with is 0 fun z a with b c d e f g h i j k l ^m is 0")

    def test_a_missing_with(self):
        self.assertMarked("fun a ^is 0")
        self.assertMarked("fun a ^0")
        self.assertMarked("fun a ^fun b with is 0")
        self.assertMarked("fun a with is 0 fun b x ^is x")
        self.assertMarked("fun a with ^with is 0")

    def test_a_missing_is(self):
        self.assertMarked("fun a with ^0")
        self.assertMarked("fun a with b ^0")
        self.assertMarked("fun a with ^new")
        self.assertMarked("fun a with ^fun b with is 0")
        self.assertMarked("fun a with is ^is 0")

    def test_a_missing_body(self):
        self.assertMarked("fun a with is ^fun b with is 0")
        self.assertMarked("fun a with b is ^fun b with is 0")
        self.assertMarked("fun a with is ^")

    def test_a_word_for_a_node_that_is_none(self):
        others = "x main fun with is K kj number get + - ~ Add add1 1k k1".split()
        for word in others:
            self.assertBodyMarked(f"^{word}")
            self.assertBodyMarked(f"size ^{word}")
            self.assertBodyMarked(f"add k ^{word}")
            self.assertBodyMarked(f"set j ^{word}")
            self.assertBodyMarked(f"all 2 size k ^{word} fun main")

    def test_numbers_that_are_none(self):
        others = ["01", "00", "-0", "-00", "-01", "007", "+1", "+0", "--1", "-", "1-", "1.", "1.0", "1e3", "0x1", "1_0"]
        others += ["1,0", "1" + "0" * 60, "-1" + "0" * 60, "9" * 61, "0" * 60, "0" + "1" * 59, "-0" + "1" * 59]
        for word in others:
            self.assertBodyMarked(f"^{word}")
            self.assertBodyMarked(f"sub k ^{word}")
            self.assertBodyMarked(f"all ^{word} k")
            self.assertBodyMarked(f"pick ^{word} k k k")

    def test_a_how_many_that_is_none(self):
        for word in ("0", "13", "-1", "01", "012", "k", "x", "all", "-12", str(SIXTY), "1k", "new", "fun"):
            self.assertBodyMarked(f"all ^{word}" + " k" * 14)
            self.assertBodyMarked(f"pick ^{word}" + " k" * 14)
        self.assertBodyMarked("pick ^1 k k k")
        self.assertBodyMarked("size pick ^1 k k k")

    def test_a_box_that_is_not_there(self):
        for word in ("x", "main", "3", "set", "K", "is", "jk"):
            self.assertBodyMarked(f"set ^{word} 0")
            self.assertBodyMarked(f"set j size set ^{word} 0")
        self.assertMarked("fun a with b is b fun c with is ^b")
        self.assertMarked("fun a with b is b fun c with is set ^b 0")
        self.assertMarked("fun a with is ^b fun c b with is b")

    def test_a_name_of_a_call_behind_no_fun(self):
        for word in ("x", "k", "j", "mains", "mai", "7", "call", "Main", "is"):
            self.assertBodyMarked(f"call ^{word}")
            self.assertBodyMarked(f"call ^{word} fun more {word} with is new")

    def test_a_name_of_a_call_that_is_no_name(self):
        for word in ("7", "Main", "fun", "with", "abcdefghi", "add"):
            self.assertBodyMarked(f"call ^{word} fun {word} with is new")

    def test_a_name_of_a_call_behind_a_later_fun(self):
        # Whatever is wrong behind a fun, its name is there for the calls ahead of it.
        self.assertMarked("fun a with is call b fun b ^")
        self.assertMarked("fun a with is call b 0 fun b x ^")
        self.assertMarked("fun a with is call b 0 fun b ^X with is 0")
        self.assertMarked("fun a with is call b 0 fun b x with ^x is 0")
        self.assertMarked("fun a with is call b 0 fun b x with is ^y")
        self.assertMarked("fun a with is all 2 call b 0 ^fun b x with is 0")
        self.assertMarked("fun a with is call b 0 ^0 fun b x with is 0")

    def test_the_first_of_two_functions_of_one_name(self):
        # By the first b a call has one part, by the second one two.
        self.assertMarked("fun a with is call b 0 fun b x with is x fun ^b x y with is x")
        self.assertMarked("fun a with is call b 0 ^0 fun b x with is x fun b x y with is x")
        self.assertMarked("fun a with is call a fun ^a x with is x")
        self.assertMarked("fun a with is call a ^0 fun a x with is x")

    def test_params_of_a_call_are_counted_to_the_next_with(self):
        # Between b and the next with stand, whatever they are, x is x fun c: five words.
        self.assertMarked("fun a with is call b 1 2 3 4 5 fun b x ^is x fun c with is 0")
        self.assertMarked("fun a with is call b 1 2 3 4 ^fun b x is x fun c with is 0")
        self.assertMarked("fun a with is call b 1 2 3 4 5 ^6 fun b x is x fun c with is 0")
        self.assertMarked("fun a with is call b 1 2 3 4 5 6 7 8 9 10 fun b c d e f ^g h i j k l with is 0")

    def test_params_of_a_call_are_counted_to_the_end(self):
        self.assertMarked("fun a with is call b fun b ^")
        self.assertMarked("fun a with is call b ^1 fun b")
        self.assertMarked("fun a with is call b 1 2 fun b x y ^")
        self.assertMarked("fun a with is call b 1 2 3 4 fun b x y ^is 0")
        self.assertMarked("fun a with is call b 1 2 3 ^fun b x y is 0")
        many = 2000
        self.assertMarked("fun a with is call b" + " 1" * many + " fun b ^1" + " 1" * (many - 1))

    def test_eleven_deep(self):
        self.assertBodyMarked("size " * 10 + "^k")
        self.assertBodyMarked("size " * 10 + "^")
        self.assertBodyMarked("size " * 10 + "^size k")
        self.assertBodyMarked("size " * 10 + "^7")
        self.assertBodyMarked("set k " * 10 + "^7")
        self.assertBodyMarked("all 1 " * 10 + "^7")
        self.assertBodyMarked("add 1 " * 9 + "add ^7" + " 1" * 10)
        self.assertBodyMarked("pick 2 " * 10 + "^7")
        self.assertBodyMarked("loop " * 10 + "^7")
        self.assertBodyMarked("fail " * 10 + "^7")
        self.assertBodyMarked("put 1 2 " * 9 + "put ^7")
        self.assertBodyMarked("size " * 7 + "add size k size size ^k")
        self.assertBodyMarked("size " * 9 + "call more ^1 fun more x with is x")
        self.assertMarked("fun a with is 0 fun b with is " + "size " * 10 + "^0")

    def test_a_word_other_than_fun_behind_a_body(self):
        for word in ("main", "k", "7", "new", "with", "is", "Fun", "~"):
            self.assertBodyMarked(f"k ^{word}")
            self.assertBodyMarked(f"add k 1 ^{word} fun more with is 0")
            self.assertMarked(f"fun a with is 0 fun b with is 0 ^{word}")

    def test_cut_behind_each_word(self):
        text = "fun a with b is all 2 set b add b 1 call a fun c d e with f is pick 2 put d e f call c d e fail -3"
        words = text.split(" ")
        read_text(text)
        whole = [words.index("c") - 1, len(words)]
        for cut in range(len(words)):
            if cut not in whole:
                self.assertAt(cut, " ".join(words[:cut]))
                self.assertAt(cut, "\n" + "\n ".join(words[:cut]) + " \n")
        self.assertEqual(read_text(" ".join(words[:whole[0]]))[1][0], 1)

    def test_cut_with_a_call_of_a_function_that_comes_later(self):
        words = EXAMPLE.split(" ")
        self.assertEqual(words[12:18], ["call", "more", "k", "fun", "more", "n"])
        due = list(range(len(words)))
        due[14:17] = [13, 13, 13]
        # Up to the end more has no params: k can't stand behind the body.
        due[17] = 14
        for cut, at in enumerate(due):
            self.assertAt(at, " ".join(words[:cut]))

    def test_two_faults_at_once(self):
        self.assertMarked("fun ^A B with is 0")
        self.assertMarked("fun a with ^is2 is y")
        self.assertMarked("fun a with is add ^x y")
        self.assertMarked("fun a with is all ^0 x fun a with is 0")
        self.assertMarked("fun a with is 0 ^1 fun a with is 0")
        self.assertMarked("fun a with is call ^c fun a with is 0")
        self.assertMarked("fun a with is 0 fun ^a x x with is 01")
        self.assertMarked("fun a with is 0 fun b x ^x with is 01")
        self.assertMarked("fun a with is size ^01 1 1")
        self.assertMarked("fun a with is all ^13" + " size" * 11)
        self.assertMarked("fun a with is" + " size" * 10 + " ^x 1")

    def test_signs_that_part_no_words(self):
        for sign in ("\t", "\r", "\f", "\v", "\u00a0", "\u2028"):
            self.assertAt(0, f"fun{sign}a with is 0")
            self.assertAt(4, f"fun a with is 0{sign}")
        for word in ("\u00b2", "\u0663", "\u00e4"):
            self.assertAt(4, f"fun a with is {word}")
            self.assertAt(1, f"fun {word} with is 0")


class SecondReader(Reading):
    """Texts with faults of all sorts, held against a reader that was written another way."""

    def words_to_put(self, names):
        own = [name for name, boxes in names] + [box for name, boxes in names for box in boxes]
        return own + RESERVED + ["fun", "with", "is"] * 4 + ["0", "1", "2", "3", "12", "13", "-1", "01", "x", "A"]

    def bent(self, dice, words, others):
        words = list(words)
        for turn in range(dice.randint(1, 2)):
            at = dice.randrange(len(words))
            how = dice.randrange(5)
            if how == 0:
                words[at] = dice.choice(others)
            elif how == 1:
                words.insert(at, dice.choice(others))
            elif how == 2 and len(words) > 1:
                words.pop(at)
            elif how == 3:
                words = words[:at + 1]
            else:
                other = dice.randrange(len(words))
                words[at], words[other] = words[other], words[at]
        return words

    def test_bent_texts(self):
        dice = random.Random(9)
        refused = 0
        for sheet, told in random_programs(dice, 400):
            names = random_names(dice, told)
            words = show_text(names, sheet).split()
            self.assertEqual(second_read(" ".join(words)), (names, sheet))
            for turn in range(8):
                text = dice.choice((" ", "\n")).join(self.bent(dice, words, self.words_to_put(names)))
                due = second_read(text)
                if isinstance(due, int):
                    refused += 1
                    self.assertAt(due, text)
                else:
                    self.assertEqual(read_text(text), due, text)
        self.assertGreater(refused, 2000)


class Showing(unittest.TestCase):
    def test_the_documents_example(self):
        lines = "fun main with k is all 2 set k add k 1 call more k\nfun more n with is mul n n"
        self.assertEqual(show_text(EXAMPLE_NAMES, EXAMPLE_SHEET), lines)

    def test_no_boxes(self):
        self.assertEqual(show_text((("a", ()),), [1, 0, 0, 0, 0]), "fun a with is 0")

    def test_params_and_other_boxes(self):
        names = (("a", ("p", "q")), ("b", ("r", "s", "t")), ("c", ("u", "v")))
        sheet = [3, 0, 2, 1, 3, 2, 2] + [1, 1] + [2, 2, 1, 0] + [6, 1, 1, 1]
        text = "fun a with p q is q\nfun b r with s t is set t r\nfun c u v with is call b v"
        self.assertEqual(show_text(names, sheet), text)

    def test_each_kind(self):
        bodies = {
            "-7": [0, -7], "k": [1, 0], "set j k": [2, 1, 1, 0], "all 2 k j": [3, 2, 1, 0, 1, 1],
            "pick 2 0 k j": [4, 2, 0, 0, 1, 0, 1, 1], "loop k j": [5, 1, 0, 1, 1], "call m": [6, 0],
            "fail k": [7, 1, 0], "put 1 2 k": [17, 0, 1, 0, 2, 1, 0], "size 1": [18, 0, 1], "new": [19],
        }
        for kind in TWO_PARTS:
            bodies[f"{WORDS[kind]} k 3"] = [kind, 1, 0, 0, 3]
        for text, body in bodies.items():
            self.assertEqual(show_text((("m", ("k", "j")),), body_sheet(body, 2)), f"fun m with k j is {text}")

    def test_numbers(self):
        for number in (0, 1, -1, 10, SIXTY, -SIXTY):
            self.assertEqual(show_text((("m", ()),), [1, 0, 0, 0, number]), f"fun m with is {number}")

    def test_other_names(self):
        names = (("more", ("more",)), ("main", ("main",)))
        lines = "fun more with more is all 2 set more add more 1 call main more\nfun main main with is mul main main"
        self.assertEqual(show_text(names, EXAMPLE_SHEET), lines)
        self.assertEqual(read_text(lines), (names, EXAMPLE_SHEET))

    def test_a_line_for_each_function(self):
        for many in range(1, 17):
            text = show_text(*read_text(text_of(many)))
            self.assertEqual(text, text_of(many).replace(" fun", "\nfun"))
            self.assertIs(type(text), str)

    def test_what_is_shown_is_read_as_the_same(self):
        dice = random.Random(10)
        for sheet, told in random_programs(dice, 200):
            for turn in range(2):
                names = random_names(dice, told)
                text = show_text(names, sheet)
                self.assertEqual(read_text(text), (names, sheet))
                self.assertEqual(len(text.split("\n")), len(told))
                self.assertNotIn("  ", text)
                for line in text.split("\n"):
                    self.assertEqual(line, line.strip())
                    self.assertTrue(line.startswith("fun "))

    def test_blanks_are_single_whatever_was_read(self):
        text = "\n\n" + EXAMPLE.replace(" ", "\n  \n") + "  "
        self.assertEqual(show_text(*read_text(text)), EXAMPLE.replace(" fun", "\nfun"))

    def test_no_sheet(self):
        for sheet in ([], [0], [1, 0, 0, 20], [1, 0, 0, 19, 19], EXAMPLE_SHEET[:-1]):
            with self.assertRaises(NoSheet) as caught:
                show_text(EXAMPLE_NAMES, sheet)
            self.assertEqual((caught.exception.place, caught.exception.word), wrong(sheet))


class NothingChanged(unittest.TestCase):
    def test_what_is_handed_in_is_as_it_was(self):
        names, sheet = copy.deepcopy(EXAMPLE_NAMES), list(EXAMPLE_SHEET)
        show_text(names, sheet)
        self.assertEqual((names, sheet), (EXAMPLE_NAMES, EXAMPLE_SHEET))

    def test_what_was_told_is_the_askers_own(self):
        names, sheet = read_text(EXAMPLE)
        again = read_text(EXAMPLE)
        sheet.reverse()
        sheet.clear()
        self.assertEqual(again, (EXAMPLE_NAMES, EXAMPLE_SHEET))
        self.assertEqual(read_text(EXAMPLE), (EXAMPLE_NAMES, EXAMPLE_SHEET))
        with self.assertRaises(NoText):
            read_text("fun a")
        self.assertEqual(again, (EXAMPLE_NAMES, EXAMPLE_SHEET))

    def test_a_later_change_of_the_sheet_changes_no_text(self):
        sheet = list(EXAMPLE_SHEET)
        text = show_text(EXAMPLE_NAMES, sheet)
        sheet[-1] = 1
        sheet.clear()
        self.assertEqual(text, EXAMPLE.replace(" fun", "\nfun"))
        self.assertEqual(show_text(EXAMPLE_NAMES, EXAMPLE_SHEET), text)


if __name__ == "__main__":
    unittest.main()
