"""Deeds: what the kinds from add to new do with values and rows [14, 15]."""

from ownchain.kinds import ADD, LESS, MUL, NEW, PUSH, PUT, QUO, SAME, SIZE, SUB

# The least number of more than a hundred figures.
GREAT = 10000000000000000000000000000000000000000000000000000000000000000000000000000000000000000000000000000


def within(value):
    if value >= GREAT or value <= -GREAT:
        return ("great", 0)
    return (None, value)


def reckoned(kind, first, second):
    if kind == ADD:
        return within(first + second)
    if kind == SUB:
        return within(first - second)
    if kind == MUL:
        return within(first * second)
    if kind == LESS:
        return (None, 1 if first < second else 0)
    if kind == SAME:
        return (None, 1 if first == second else 0)
    if second == 0:
        return ("zero", 0)
    if kind == QUO:
        return (None, first // second)
    return (None, first % second)


def done_to_row(kind, values, rows):
    number = values[0]
    if number < 0 or number >= len(rows):
        return ("row", 0)
    row = rows[number]
    if kind == SIZE:
        return (None, len(row))
    if kind == PUSH:
        row.append(values[1])
        return (None, values[1])
    place = values[1]
    if place < 0 or place >= len(row):
        return ("place", 0)
    if kind == PUT:
        row[place] = values[2]
    return (None, row[place])


def worth(kind, values, rows):
    if kind == NEW:
        rows.append([])
        return (None, len(rows) - 1)
    if kind >= PUSH:
        return done_to_row(kind, values, rows)
    return reckoned(kind, values[0], values[1])
