"""A desk: it keeps programs by names, is told rows, and answers each with a text [31]."""

from ownchain.errors import NoName, NoRow
from ownchain.machine import go
from ownchain.maker import made
from ownchain.own import breaths_for, by_machine, own_sheet
from ownchain.papers import enough
from ownchain.runner import run
from ownchain.sheets import wrong
from ownchain.small import small
from ownchain.texts import is_name, is_number, read_text, show_text

MOST_BREATHS = 20000


# A text of a program has blanks of its own: all of it is one word of the row.
def words_in(row):
    if row.startswith("take "):
        return row.split(" ", 2)
    return row.split(" ")


def is_known(words):
    many = len(words)
    if words[0] == "take":
        return many == 3
    if words[0] in ("drop", "show", "make", "small", "own"):
        return many == 2
    if words[0] in ("run", "go"):
        return many >= 3
    if words[0] == "names":
        return many == 1
    return words[0] == "ask"


def numbers_in(words):
    for word in words:
        if not is_number(word):
            raise NoRow()
    return [int(word) for word in words]


def breaths_in(word):
    breaths = numbers_in([word])[0]
    if breaths < 0 or breaths > MOST_BREATHS:
        raise NoRow()
    return breaths


def shown(things):
    return " ".join([str(thing) for thing in things])


def shown_outcome(outcome):
    word, number, answer = outcome
    return shown([word, number] + answer)


def run_by(word, sheet, breaths, given):
    if word == "run":
        return run(sheet, given, breaths)
    code = made(sheet)
    return go(code, given, breaths, enough(sheet, code, breaths))


def made_by_own(sheet):
    return by_machine(made(own_sheet()), sheet, breaths_for(sheet))[1]


def asked(numbers):
    found = wrong(numbers)
    return "sheet" if found is None else shown(found)


def told_of(word, names, sheet):
    if word == "show":
        return show_text(names, sheet).replace("\n", " ")
    if word == "make":
        return shown(made(sheet))
    if word == "small":
        return shown(small(sheet)[0])
    return shown(made_by_own(sheet))


class Desk:
    def __init__(self):
        self.programs = {}

    def say(self, row):
        if not isinstance(row, str):
            raise NoRow()
        words = words_in(row)
        if not is_known(words):
            raise NoRow()
        if words[0] == "names":
            return shown(sorted(self.programs)) if self.programs else "none"
        if words[0] == "ask":
            return asked(numbers_in(words[1:]))
        if words[0] == "take":
            return self.take_program(words[1], words[2])
        return self.say_of(words)

    def take_program(self, name, text):
        if not is_name(name):
            raise NoName()
        self.programs[name] = read_text(text)
        return "ok"

    def say_of(self, words):
        if words[1] not in self.programs:
            raise NoName()
        if words[0] == "drop":
            self.programs.pop(words[1])
            return "ok"
        names, sheet = self.programs[words[1]]
        if words[0] in ("run", "go"):
            breaths = breaths_in(words[2])
            return shown_outcome(run_by(words[0], sheet, breaths, numbers_in(words[3:])))
        return told_of(words[0], names, sheet)
