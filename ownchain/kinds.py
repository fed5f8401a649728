"""The kinds of nodes: their numbers, words and parts [5, 8]."""

NUMBER = 0
GET = 1
SET = 2
ALL = 3
PICK = 4
LOOP = 5
CALL = 6
FAIL = 7
ADD = 8
SUB = 9
MUL = 10
QUO = 11
REST = 12
LESS = 13
SAME = 14
PUSH = 15
AT = 16
PUT = 17
SIZE = 18
NEW = 19

# From SET on: a number and a get are written without a word of their kind.
WORDS = (
    "set", "all", "pick", "loop", "call", "fail",
    "add", "sub", "mul", "quo", "rest", "less", "same", "push", "at",
    "put", "size", "new",
)

# From FAIL on: of the kinds ahead of it some have as many parts as a sheet tells.
PARTS = (
    1,
    2, 2, 2, 2, 2, 2, 2, 2, 2,
    3, 1, 0,
)


def parts_of(kind):
    return PARTS[kind - FAIL]


def word_of(kind):
    return WORDS[kind - SET]


def kind_of(word):
    if word in WORDS:
        return SET + WORDS.index(word)
    return None
