"""Smaller code: what is fixed is reckoned ahead, jumps lead straight, and no row is left that none comes to [26]."""

from ownchain.codes import OP_BACK, OP_JUMP, OP_PICK, OP_UNLESS, code_of
from ownchain.kinds import ALL, NUMBER, PICK
from ownchain.maker import making_of
from ownchain.papers import fixed, meant
from ownchain.runner import picked
from ownchain.sheets import functions


# Each node left stays at its place: so the paper that is made of these is one of the sheet's own nodes.
def folded(node):
    kind, place, numbers, parts = node
    value = fixed(node)
    if value is not None:
        return (NUMBER, place, (value,), ())
    if kind == PICK:
        value = fixed(parts[0])
        if value is not None:
            # An all of one part has the rows of that part alone.
            return (ALL, place, (1,), (folded(picked(value, parts)),))
    return (kind, place, numbers, tuple([folded(part) for part in parts]))


# Jumps alone: an unless leads to the push of its own loop, as it is made.
def straightened(rows):
    return [(op, meant(rows, number) if op == OP_JUMP else number) for op, number in rows]


def rows_next(rows, at):
    op, number = rows[at]
    if op == OP_BACK:
        return []
    if op == OP_JUMP:
        return [number]
    if op == OP_UNLESS:
        return [at + 1, number]
    if op == OP_PICK:
        return list(range(at + 1, at + 1 + number))
    return [at + 1]


def rows_come_to(rows, starts):
    come_to = {}
    waiting = list(starts)
    while waiting:
        at = waiting.pop()
        if at not in come_to:
            come_to[at] = True
            waiting.extend(rows_next(rows, at))
    return sorted(come_to)


def small(sheet):
    making = making_of([(params, boxes, folded(body)) for params, boxes, body in functions(sheet)])
    straight = straightened(making.rows)
    left = rows_come_to(straight, [start for start, params, boxes in making.heads])
    moved = {}
    for at in left:
        moved[at] = len(moved)
    heads = [(moved[start], params, boxes) for start, params, boxes in making.heads]
    rows = []
    for at in left:
        op, number = straight[at]
        rows.append((op, moved[number] if op == OP_JUMP or op == OP_UNLESS else number))
    paper = [(place, moved[begin], moved[end]) for place, begin, end in making.paper]
    return (code_of(heads, rows), sorted(paper))
