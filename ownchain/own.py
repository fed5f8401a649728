"""The own maker: the maker as a program of the language, and what it says of lists [27] to [29]."""

from ownchain.machine import go
from ownchain.maker import made
from ownchain.runner import run
from ownchain.sheets import wrong
from ownchain.texts import read_text

# Row 0 is the list, row 1 the code so far, row 2 what was taken of the list so far: its size is the place that is due.
# The code's head is made first; what stands there tells later how many functions, params and boxes there are.
OWN_TEXT = """fun main with f is all 5
  new
  push 1 call take 1 16
  loop less size 1 mul 3 at 1 0
    all 3
      push 1 0
      push 1 call take 0 mul 4 less 1 size 2
      push 1 call take at 1 sub size 1 1 12
  loop less f at 1 0
    all 4
      put 1 add 1 mul 3 f call row size 1
      call node at 1 add 3 mul 3 f 1
      call emit 7 0
      set f add f 1
  pick 2 less size 2 size 0
    0
    fail add mul 4 size 2 3

fun next with is
  push 2 pick 2 less size 2 size 0
    fail mul 4 size 2
    at 0 size 2

fun take least most with n is all 2
  set n call next
  pick 2 add less n least less most n
    n
    fail sub mul 4 size 2 3

fun row place with is
  quo sub place mul 3 at 1 0 2

fun emit op n with is all 2
  push 1 op
  push 1 n

fun jumps many with is
  loop many all 3
    push 1 4
    push 1 0
    set many sub many 1

fun node boxes deep with kind own many begin end is all 4
  pick 2 less deep 11
    fail add mul 4 size 2 2
    0
  set kind call take 0 19
  set own pick 9 kind
    call next
    call take 0 sub boxes 1
    call take 0 sub boxes 1
    call take 1 12
    call take 2 12
    0
    call take 0 sub at 1 0 1
    0
    kind
  pick 4 sub kind 3
    all 2
      call node boxes add deep 1
      loop set own sub own 1 all 2
        call emit 3 0
        call node boxes add deep 1
    all 7
      call node boxes add deep 1
      call emit 11 own
      set begin add size 1 1
      set end add own call row size 1
      call jumps add own 1
      loop less many own all 4
        pick 2 many 0 call emit 4 end
        put 1 add begin mul 2 many call row size 1
        call node boxes add deep 1
        set many add many 1
      put 1 add begin mul 2 own call row size 1
    all 10
      set begin call row size 1
      call emit 9 0
      call node boxes add deep 1
      set end size 1
      call emit 5 0
      call node boxes add deep 1
      call emit 3 0
      call emit 4 begin
      put 1 add end 1 call row size 1
      call emit 0 0
    all 3
      set many pick 9 kind
        0 0 1 0 0 0 at 1 add 2 mul 3 own 1
        pick 4 sub kind 17 3 1 0 2
      loop many all 2
        call node boxes add deep 1
        set many sub many 1
      call emit pick 9 kind 0 1 2 0 0 0 6 8 10 own
"""

# What it tells of a list that is no sheet is the place times how many words these are, and the word's number put to it.
REASONS = ("end", "range", "deep", "over")
BREATHS_FOR_EACH = 20
ROWS_FOR_EACH = 400


def own_text():
    return OWN_TEXT


def own_sheet():
    return read_text(OWN_TEXT)[1]


def breaths_for(numbers):
    return BREATHS_FOR_EACH * (len(numbers) + 1)


def say(outcome):
    word, number, answer = outcome
    if word == "done":
        return ("code", list(answer))
    if word == "told" and number >= 0:
        return ("no", number // len(REASONS), REASONS[number % len(REASONS)])
    return ("fault", word)


def by_runner(maker, numbers, breaths):
    return say(run(maker, numbers, breaths))


def by_machine(code, numbers, breaths):
    return say(go(code, numbers, breaths, ROWS_FOR_EACH * (breaths + 1)))


def say_due(numbers):
    found = wrong(numbers)
    if found is None:
        return ("code", made(numbers))
    return ("no", found[0], found[1])


def chain(numbers):
    breaths = breaths_for(numbers)
    maker = own_sheet()
    code = made(maker)
    code_by_itself = by_machine(code, maker, breaths_for(maker))[1]
    return (
        by_runner(maker, numbers, breaths),
        by_machine(code, numbers, breaths),
        by_machine(code_by_itself, numbers, breaths),
    )
