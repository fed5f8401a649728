"""The maker: it makes a code of a sheet, and the paper that tells which rows stand for which node [21, 22]."""

from ownchain.codes import OP_BACK, OP_BREATH, OP_CALL, OP_DO, OP_DROP, OP_FAIL, OP_GET, OP_JUMP, OP_PICK, OP_PUSH
from ownchain.codes import OP_SET, OP_UNLESS, code_of
from ownchain.kinds import ALL, CALL, FAIL, GET, LOOP, NUMBER, PICK, SET
from ownchain.sheets import functions


class Making:
    def __init__(self):
        self.heads = []
        self.rows = []
        self.paper = []


def make_all(making, parts):
    make_node(making, parts[0])
    for part in parts[1:]:
        making.rows.append((OP_DROP, 0))
        make_node(making, part)


# The jumps are written at first as if they led to row 0: where they lead is known when the parts are made.
def make_pick(making, parts):
    many = len(parts) - 1
    make_node(making, parts[0])
    making.rows.append((OP_PICK, many))
    first_jump = len(making.rows)
    last_jump = first_jump + many
    for jump in range(many + 1):
        making.rows.append((OP_JUMP, 0))
    for number, part in enumerate(parts[1:]):
        if number > 0:
            making.rows.append((OP_JUMP, last_jump))
        making.rows[first_jump + number] = (OP_JUMP, len(making.rows))
        make_node(making, part)
    making.rows[last_jump] = (OP_JUMP, len(making.rows))


def make_loop(making, parts):
    around = len(making.rows)
    making.rows.append((OP_BREATH, 0))
    make_node(making, parts[0])
    unless = len(making.rows)
    making.rows.append((OP_UNLESS, 0))
    make_node(making, parts[1])
    making.rows.append((OP_DROP, 0))
    making.rows.append((OP_JUMP, around))
    making.rows[unless] = (OP_UNLESS, len(making.rows))
    making.rows.append((OP_PUSH, 0))


def own_row(kind, numbers):
    if kind == NUMBER:
        return (OP_PUSH, numbers[0])
    if kind == GET:
        return (OP_GET, numbers[0])
    if kind == SET:
        return (OP_SET, numbers[0])
    if kind == CALL:
        return (OP_CALL, numbers[0])
    if kind == FAIL:
        return (OP_FAIL, 0)
    return (OP_DO, kind)


def make_node(making, node):
    kind, place, numbers, parts = node
    begin = len(making.rows)
    if kind == ALL:
        make_all(making, parts)
    elif kind == PICK:
        make_pick(making, parts)
    elif kind == LOOP:
        make_loop(making, parts)
    else:
        for part in parts:
            make_node(making, part)
        making.rows.append(own_row(kind, numbers))
    making.paper.append((place, begin, len(making.rows)))


def making_of(program):
    making = Making()
    for params, boxes, body in program:
        making.heads.append((len(making.rows), params, boxes))
        make_node(making, body)
        making.rows.append((OP_BACK, 0))
    return making


def made(sheet):
    making = making_of(functions(sheet))
    return code_of(making.heads, making.rows)


def made_paper(sheet):
    return sorted(making_of(functions(sheet)).paper)
