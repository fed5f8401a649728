"""The plain runner: it does a sheet, node by node [12] to [16]."""

from ownchain.deeds import worth
from ownchain.kinds import ALL, CALL, FAIL, GET, LOOP, NUMBER, PICK, SET
from ownchain.sheets import functions

MOST_DONE_AT_ONCE = 16
ANSWER = 1


class Fault(Exception):
    def __init__(self, word, number):
        self.word = word
        self.number = number


class Work:
    def __init__(self, program, given, breaths):
        self.program = program
        self.rows = [list(given), []]
        self.breaths = breaths
        self.done_at_once = 0

    def breathe(self):
        if self.breaths <= 0:
            raise Fault("breath", 0)
        self.breaths -= 1


def picked(value, parts):
    last = len(parts) - 1
    if value < 0 or value >= last:
        return parts[last]
    return parts[1 + value]


def do_call(work, function, values):
    if work.done_at_once == MOST_DONE_AT_ONCE:
        raise Fault("deep", 0)
    work.breathe()
    params, boxes, body = work.program[function]
    work.done_at_once += 1
    value = do_node(work, body, values + [0] * (boxes - params))
    work.done_at_once -= 1
    return value


def do_with(work, kind, numbers, values, boxes):
    if kind == SET:
        boxes[numbers[0]] = values[0]
        return values[0]
    if kind == ALL:
        return values[-1]
    if kind == CALL:
        return do_call(work, numbers[0], values)
    if kind == FAIL:
        raise Fault("told", values[0])
    fault, value = worth(kind, values, work.rows)
    if fault is not None:
        raise Fault(fault, 0)
    return value


# The loop is done right here: a call of its own for each loop around would make the recursion twice as deep.
def do_node(work, node, boxes):
    kind, place, numbers, parts = node
    if kind == NUMBER:
        return numbers[0]
    if kind == GET:
        return boxes[numbers[0]]
    if kind == PICK:
        return do_node(work, picked(do_node(work, parts[0], boxes), parts), boxes)
    if kind == LOOP:
        work.breathe()
        while do_node(work, parts[0], boxes) != 0:
            do_node(work, parts[1], boxes)
            work.breathe()
        return 0
    values = []
    for part in parts:
        values.append(do_node(work, part, boxes))
    return do_with(work, kind, numbers, values, boxes)


def run(sheet, given, breaths):
    work = Work(functions(sheet), given, breaths)
    try:
        value = do_call(work, 0, [])
    except Fault as e:
        return (e.word, e.number, work.rows[ANSWER])
    return ("done", value, work.rows[ANSWER])
