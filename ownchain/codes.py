"""Codes: rows for the machine, as lists of whole numbers [17, 18]."""

from ownchain.errors import NoCode
from ownchain.kinds import ADD, NEW
from ownchain.sheets import LEAST_PICK, MOST_BOXES, MOST_FUNCTIONS, MOST_MANY, MOST_PARAMS, is_whole

OP_PUSH = 0
OP_GET = 1
OP_SET = 2
OP_DROP = 3
OP_JUMP = 4
OP_UNLESS = 5
OP_CALL = 6
OP_BACK = 7
OP_FAIL = 8
OP_BREATH = 9
OP_DO = 10
OP_PICK = 11

HEAD_SIZE = 3
ROW_SIZE = 2


def is_head(head, function, many_rows):
    start, params, boxes = head
    if start < 0 or start >= many_rows:
        return False
    # Function 0 has no params: nobody is there to hand it any.
    most_params = 0 if function == 0 else MOST_PARAMS
    return 0 <= params <= most_params and params <= boxes <= MOST_BOXES


# Drop, back, fail and breath have no number to tell: theirs is 0.
def stands_alone(op):
    return op in (OP_DROP, OP_BACK, OP_FAIL, OP_BREATH)


def is_row(row, many_functions, many_rows):
    op, number = row
    if op == OP_PUSH:
        return True
    if op == OP_GET or op == OP_SET:
        return 0 <= number < MOST_BOXES
    if op == OP_JUMP or op == OP_UNLESS:
        return 0 <= number < many_rows
    if op == OP_CALL:
        return 0 <= number < many_functions
    if op == OP_DO:
        return ADD <= number <= NEW
    if op == OP_PICK:
        return LEAST_PICK <= number <= MOST_MANY
    return stands_alone(op) and number == 0


def grouped(numbers, size):
    return [tuple(numbers[at:at + size]) for at in range(0, len(numbers), size)]


def heads_in(numbers):
    return grouped(numbers[1:1 + HEAD_SIZE * numbers[0]], HEAD_SIZE)


def rows_in(numbers):
    return grouped(numbers[1 + HEAD_SIZE * numbers[0]:], ROW_SIZE)


def is_list_of_wholes(thing):
    return isinstance(thing, list) and all([is_whole(number) for number in thing])


def is_code(thing):
    if not is_list_of_wholes(thing) or len(thing) == 0:
        return False
    if thing[0] < 1 or thing[0] > MOST_FUNCTIONS:
        return False
    many_numbers = len(thing) - 1 - HEAD_SIZE * thing[0]
    if many_numbers < ROW_SIZE or many_numbers % ROW_SIZE != 0:
        return False
    many_rows = many_numbers // ROW_SIZE
    for function, head in enumerate(heads_in(thing)):
        if not is_head(head, function, many_rows):
            return False
    return all([is_row(row, thing[0], many_rows) for row in rows_in(thing)])


def heads_of(code):
    if not is_code(code):
        raise NoCode()
    return heads_in(code)


def rows_of(code):
    if not is_code(code):
        raise NoCode()
    return rows_in(code)


# Of things that are each of the size due: else numbers of one could pass for those of the next.
def joined(things, size):
    if not isinstance(things, (list, tuple)):
        raise NoCode()
    numbers = []
    for thing in things:
        if not isinstance(thing, (list, tuple)) or len(thing) != size:
            raise NoCode()
        numbers.extend(thing)
    return numbers


def code_of(heads, rows):
    numbers = joined(heads, HEAD_SIZE)
    code = [len(numbers) // HEAD_SIZE] + numbers + joined(rows, ROW_SIZE)
    if not is_code(code):
        raise NoCode()
    return code
