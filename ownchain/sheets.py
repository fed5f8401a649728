"""Sheets: programs as lists of whole numbers [4] to [7]."""

from ownchain.errors import NoSheet
from ownchain.kinds import ALL, CALL, GET, LOOP, NEW, NUMBER, PICK, SET, parts_of

MOST_FUNCTIONS = 16
MOST_PARAMS = 4
MOST_BOXES = 12
MOST_DEEP = 10
MOST_MANY = 12
LEAST_ALL = 1
LEAST_PICK = 2


def is_whole(thing):
    return isinstance(thing, int) and not isinstance(thing, bool)


class Look:
    def __init__(self, numbers):
        self.numbers = numbers
        self.place = 0

    def take(self):
        if self.place >= len(self.numbers):
            raise NoSheet(self.place, "end")
        number = self.numbers[self.place]
        if not is_whole(number):
            raise NoSheet(self.place, "range")
        self.place += 1
        return number

    def take_within(self, least, most):
        place = self.place
        number = self.take()
        if number < least or number > most:
            raise NoSheet(place, "range")
        return number


def take_heads(look):
    heads = []
    most_params = 0
    for function in range(look.take_within(1, MOST_FUNCTIONS)):
        params = look.take_within(0, most_params)
        heads.append((params, look.take_within(params, MOST_BOXES)))
        # Function 0 alone has no params: nobody is there to hand it any.
        most_params = MOST_PARAMS
    return heads


def take_own(look, kind, heads, boxes):
    if kind == NUMBER:
        return (look.take(),)
    if kind == GET or kind == SET:
        return (look.take_within(0, boxes - 1),)
    if kind == ALL:
        return (look.take_within(LEAST_ALL, MOST_MANY),)
    if kind == PICK:
        return (look.take_within(LEAST_PICK, MOST_MANY),)
    if kind == CALL:
        return (look.take_within(0, len(heads) - 1),)
    return ()


def parts_due(kind, numbers, heads):
    if kind == NUMBER or kind == GET:
        return 0
    if kind == SET:
        return 1
    if kind == ALL:
        return numbers[0]
    if kind == PICK:
        return 1 + numbers[0]
    if kind == LOOP:
        return 2
    if kind == CALL:
        return heads[numbers[0]][0]
    return parts_of(kind)


def take_node(look, heads, boxes, deep):
    place = look.place
    if deep > MOST_DEEP:
        raise NoSheet(place, "deep")
    kind = look.take_within(NUMBER, NEW)
    numbers = take_own(look, kind, heads, boxes)
    parts = []
    for part in range(parts_due(kind, numbers, heads)):
        parts.append(take_node(look, heads, boxes, deep + 1))
    return (kind, place, numbers, tuple(parts))


def functions(sheet):
    look = Look(sheet)
    heads = take_heads(look)
    told = []
    for params, boxes in heads:
        told.append((params, boxes, take_node(look, heads, boxes, 1)))
    if look.place < len(sheet):
        raise NoSheet(look.place, "over")
    return told


def wrong(numbers):
    try:
        functions(numbers)
    except NoSheet as e:
        return (e.place, e.word)
    return None


# A list of what waits, and no recursion: a body that sheet_of is handed may be deeper than a sheet's.
def nodes_in(body):
    told = []
    waiting = [body]
    while waiting:
        node = waiting.pop()
        told.append(node)
        for part in reversed(node[3]):
            waiting.append(part)
    return told


def sheet_of(functions):
    sheet = [len(functions)]
    for params, boxes, body in functions:
        sheet.append(params)
        sheet.append(boxes)
    for params, boxes, body in functions:
        for kind, place, numbers, parts in nodes_in(body):
            sheet.append(kind)
            sheet.extend(numbers)
    found = wrong(sheet)
    if found is not None:
        raise NoSheet(found[0], found[1])
    return sheet


def nodes(sheet):
    told = []
    for params, boxes, body in functions(sheet):
        told.extend(nodes_in(body))
    return told
