"""Papers: which rows of a code stand for which node of a sheet, and whether they are let by [23] to [25]."""

from ownchain.codes import OP_BACK, OP_BREATH, OP_DROP, OP_JUMP, OP_PICK, OP_PUSH, OP_UNLESS, heads_of, rows_of
from ownchain.deeds import worth
from ownchain.kinds import ADD, ALL, FAIL, LOOP, NUMBER, PICK, SAME
from ownchain.maker import own_row
from ownchain.runner import picked
from ownchain.sheets import functions, is_whole, nodes

LINE_SIZE = 3


def meant(rows, at):
    # Who comes by as many jumps as there are rows goes round in a ring.
    for jump in range(len(rows)):
        if at < 0 or at >= len(rows):
            return None
        if rows[at][0] != OP_JUMP:
            return at
        at = rows[at][1]
    return None


def fixed(node):
    kind, place, numbers, parts = node
    if kind == NUMBER:
        return numbers[0]
    if kind < ADD or kind > SAME:
        return None
    values = [fixed(part) for part in parts]
    if None in values:
        return None
    fault, value = worth(kind, values, [])
    return value if fault is None else None


# A paper of good form, beside its code; right tells of each node looked at so far whether it is right.
class Check:
    def __init__(self, rows, paper):
        self.rows = rows
        self.leads = [meant(rows, at) for at in range(len(rows))]
        self.lines = {}
        for place, begin, end in paper:
            self.lines[place] = (begin, end)
        self.right = {}


def begin_of(check, node):
    return check.lines[node[1]][0]


def end_of(check, node):
    return check.lines[node[1]][1]


def row_meant(check, at):
    if at is None or at >= len(check.leads):
        return None
    return check.leads[at]


def meet(check, first, second):
    lead = row_meant(check, first)
    return lead is not None and lead == row_meant(check, second)


# The row behind the row at this one, where that is the row due; else None, which meets nothing.
def behind(check, at, row):
    lead = row_meant(check, at)
    if lead is None or check.rows[lead] != row:
        return None
    return lead + 1


def are_right(check, parts):
    return all([check.right[part[1]] for part in parts])


def begins_alike(check, node, part):
    return meet(check, begin_of(check, part), begin_of(check, node))


def ends_alike(check, node, part):
    return meet(check, end_of(check, part), end_of(check, node))


def is_pushed(check, node):
    value = fixed(node)
    if value is None:
        return False
    return meet(check, behind(check, begin_of(check, node), (OP_PUSH, value)), end_of(check, node))


def is_right_all(check, node):
    parts = node[3]
    for part, following in zip(parts, parts[1:]):
        if not meet(check, behind(check, end_of(check, part), (OP_DROP, 0)), begin_of(check, following)):
            return False
    return begins_alike(check, node, parts[0]) and ends_alike(check, node, parts[-1])


def is_right_pick(check, node):
    first = node[3][0]
    others = node[3][1:]
    entry = behind(check, end_of(check, first), (OP_PICK, len(others)))
    if entry is None or not begins_alike(check, node, first):
        return False
    for number, part in enumerate(others):
        if not meet(check, entry + number, begin_of(check, part)) or not ends_alike(check, node, part):
            return False
    return True


def is_picked_ahead(check, node):
    value = fixed(node[3][0])
    if value is None:
        return False
    part = picked(value, node[3])
    return check.right[part[1]] and begins_alike(check, node, part) and ends_alike(check, node, part)


# None, which no unless leads to and which meets nothing, where the row at this one is another.
def left_by_unless(check, at):
    lead = row_meant(check, at)
    if lead is None or check.rows[lead][0] != OP_UNLESS:
        return None
    return check.rows[lead][1]


def is_right_loop(check, node):
    first, second = node[3]
    out = left_by_unless(check, end_of(check, first))
    return (
        meet(check, behind(check, begin_of(check, node), (OP_BREATH, 0)), begin_of(check, first))
        and meet(check, behind(check, end_of(check, first), (OP_UNLESS, out)), begin_of(check, second))
        and meet(check, behind(check, end_of(check, second), (OP_DROP, 0)), begin_of(check, node))
        and meet(check, behind(check, out, (OP_PUSH, 0)), end_of(check, node))
    )


# Of the kinds whose own row stands behind all of their parts' rows: where that row is due.
def own_row_at(check, node):
    at = begin_of(check, node)
    for part in node[3]:
        if not meet(check, at, begin_of(check, part)):
            return None
        at = end_of(check, part)
    return at


def is_right_by_own_row(check, node):
    kind, place, numbers, parts = node
    after = behind(check, own_row_at(check, node), own_row(kind, numbers))
    if kind == FAIL:
        return after is not None
    return meet(check, after, end_of(check, node))


def is_right(check, node):
    kind, place, numbers, parts = node
    if place not in check.lines:
        return False
    if is_pushed(check, node) or kind == PICK and is_picked_ahead(check, node):
        return True
    if not are_right(check, parts):
        return False
    if kind == ALL:
        return is_right_all(check, node)
    if kind == PICK:
        return is_right_pick(check, node)
    if kind == LOOP:
        return is_right_loop(check, node)
    return is_right_by_own_row(check, node)


def is_right_function(check, start, body):
    if not check.right[body[1]] or not meet(check, start, begin_of(check, body)):
        return False
    return behind(check, end_of(check, body), (OP_BACK, 0)) is not None


def is_line(line, places, many_rows):
    if not isinstance(line, tuple) or len(line) != LINE_SIZE or not all([is_whole(number) for number in line]):
        return False
    place, begin, end = line
    return place in places and 0 <= begin < many_rows and 0 <= end <= many_rows


def is_paper(paper, places, many_rows):
    if not isinstance(paper, list):
        return False
    there = {}
    for line in paper:
        if not is_line(line, places, many_rows) or line[0] in there:
            return False
        there[line[0]] = True
    return True


def have_same_boxes(program, heads):
    asked = [(params, boxes) for params, boxes, body in program]
    return asked == [(params, boxes) for start, params, boxes in heads]


def lets_by(sheet, code, paper):
    program = functions(sheet)
    heads = heads_of(code)
    rows = rows_of(code)
    told = nodes(sheet)
    if not have_same_boxes(program, heads) or not is_paper(paper, dict([(node[1], True) for node in told]), len(rows)):
        return False
    check = Check(rows, paper)
    # From the last one on: so a node's parts are looked at ahead of it.
    for node in reversed(told):
        check.right[node[1]] = is_right(check, node)
    return all([is_right_function(check, head[0], function[2]) for head, function in zip(heads, program)])


def enough(sheet, code, breaths):
    functions(sheet)
    return 3 * (breaths + 2) * (len(sheet) + 1) * (len(rows_of(code)) + 1)
