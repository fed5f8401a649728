"""Texts of codes: a line for each function, then one for each row [11]."""

from ownchain.codes import OP_DO, OP_PUSH, code_of, heads_of, rows_of, stands_alone
from ownchain.errors import NoText
from ownchain.kinds import ADD, kind_of, word_of
from ownchain.texts import MOST_FIGURES, is_number, is_number_of

# By op. Do has no word of its own: it is written by the word of its kind.
ROW_WORDS = (
    "push", "get", "set", "drop", "jump", "unless", "call", "back", "fail", "breath", None, "pick",
)
HEAD_WORD = "fun"
HEAD_LENGTH = 4
# What is pushed may have been reckoned ahead, and that has up to so many figures.
MOST_PUSHED_FIGURES = 100


def show_row(op, number):
    if op == OP_DO:
        return word_of(number)
    word = ROW_WORDS[op]
    if stands_alone(op):
        return word
    return f"{word} {number}"


def show_code(code):
    lines = []
    for start, params, boxes in heads_of(code):
        lines.append(f"{HEAD_WORD} {start} {params} {boxes}")
    for op, number in rows_of(code):
        lines.append(show_row(op, number))
    return "\n".join(lines)


def read_head(words, at):
    if len(words) != HEAD_LENGTH or not all([is_number(word) for word in words[1:]]):
        raise NoText(at)
    return tuple([int(word) for word in words[1:]])


def most_figures(op):
    return MOST_PUSHED_FIGURES if op == OP_PUSH else MOST_FIGURES


def read_row(words, at):
    kind = kind_of(words[0])
    # Asked ahead of the ops: push by itself is a deed, and only with a number the op of that word.
    if len(words) == 1 and kind is not None and kind >= ADD:
        return (OP_DO, kind)
    if words[0] not in ROW_WORDS:
        raise NoText(at)
    op = ROW_WORDS.index(words[0])
    if stands_alone(op) and len(words) == 1:
        return (op, 0)
    if stands_alone(op) or len(words) != 2 or not is_number_of(words[1], most_figures(op)):
        raise NoText(at)
    return (op, int(words[1]))


def read_code(text):
    if not isinstance(text, str):
        raise NoText(0)
    heads = []
    rows = []
    for at, line in enumerate(text.split("\n")):
        words = line.split(" ")
        if words[0] == HEAD_WORD and not rows:
            heads.append(read_head(words, at))
        else:
            rows.append(read_row(words, at))
    return code_of(heads, rows)
