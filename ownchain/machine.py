"""The machine: it does a code, row by row [19, 20]."""

from ownchain.codes import OP_BACK, OP_BREATH, OP_CALL, OP_DO, OP_DROP, OP_FAIL, OP_GET, OP_JUMP, OP_PUSH, OP_SET
from ownchain.codes import OP_UNLESS, heads_of, rows_of
from ownchain.deeds import worth
from ownchain.kinds import parts_of
from ownchain.runner import ANSWER, MOST_DONE_AT_ONCE, Fault


class Doing:
    def __init__(self, start, boxes):
        self.at = start
        self.boxes = boxes
        self.held = []


class Machine:
    def __init__(self, code, given, breaths):
        self.heads = heads_of(code)
        self.steps = rows_of(code)
        self.rows = [list(given), []]
        self.breaths = breaths
        self.being_done = []
        self.value = 0

    def breathe(self):
        if self.breaths <= 0:
            raise Fault("breath", 0)
        self.breaths -= 1


def take_last(held):
    if not held:
        raise Fault("stray", 0)
    return held.pop()


def take_off(held, many):
    taken = []
    for value in range(many):
        taken.append(take_last(held))
    taken.reverse()
    return taken


def want_box(doing, box):
    if box >= len(doing.boxes):
        raise Fault("stray", 0)


def do_set(doing, box):
    want_box(doing, box)
    value = take_last(doing.held)
    doing.boxes[box] = value
    doing.held.append(value)


def do_deed(machine, held, kind):
    fault, value = worth(kind, take_off(held, parts_of(kind)), machine.rows)
    if fault is not None:
        raise Fault(fault, 0)
    held.append(value)


def do_call(machine, held, function):
    start, params, boxes = machine.heads[function]
    values = take_off(held, params)
    if len(machine.being_done) == MOST_DONE_AT_ONCE:
        raise Fault("deep", 0)
    machine.breathe()
    machine.being_done.append(Doing(start, values + [0] * (boxes - params)))


def do_back(machine, held):
    machine.value = take_last(held)
    machine.being_done.pop()
    if machine.being_done:
        machine.being_done[-1].held.append(machine.value)


def skipped(value, many):
    return value if 0 <= value < many else many - 1


def do_row(machine, doing, op, number):
    if op == OP_PUSH:
        doing.held.append(number)
    elif op == OP_GET:
        want_box(doing, number)
        doing.held.append(doing.boxes[number])
    elif op == OP_DO:
        do_deed(machine, doing.held, number)
    elif op == OP_SET:
        do_set(doing, number)
    elif op == OP_DROP:
        take_last(doing.held)
    elif op == OP_JUMP:
        doing.at = number
    elif op == OP_UNLESS:
        if take_last(doing.held) == 0:
            doing.at = number
    elif op == OP_BREATH:
        machine.breathe()
    elif op == OP_CALL:
        do_call(machine, doing.held, number)
    elif op == OP_BACK:
        do_back(machine, doing.held)
    elif op == OP_FAIL:
        raise Fault("told", take_last(doing.held))
    else:
        doing.at += skipped(take_last(doing.held), number)


def do_rows(machine, most):
    steps = machine.steps
    being_done = machine.being_done
    done = 0
    while being_done:
        doing = being_done[-1]
        at = doing.at
        if at >= len(steps):
            raise Fault("stray", 0)
        if done >= most:
            raise Fault("rows", 0)
        done += 1
        doing.at = at + 1
        do_row(machine, doing, steps[at][0], steps[at][1])


def go(code, given, breaths, most):
    machine = Machine(code, given, breaths)
    try:
        do_call(machine, [], 0)
        do_rows(machine, most)
    except Fault as e:
        return (e.word, e.number, machine.rows[ANSWER])
    return ("done", machine.value, machine.rows[ANSWER])
