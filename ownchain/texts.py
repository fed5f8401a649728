"""Texts: programs as words, read and shown [8] to [10]."""

from ownchain.errors import NoText
from ownchain.kinds import ALL, CALL, GET, NUMBER, PICK, SET, WORDS, kind_of, word_of
from ownchain.sheets import LEAST_ALL, LEAST_PICK, MOST_BOXES, MOST_DEEP, MOST_FUNCTIONS, MOST_MANY, MOST_PARAMS
from ownchain.sheets import functions, nodes_in, parts_due

LETTERS = "abcdefghijklmnopqrstuvwxyz"
FIGURES = "0123456789"
MOST_LETTERS = 8
MOST_FIGURES = 60
HEAD_WORDS = ("fun", "with", "is")


# Blanks and line feeds alone part words: split() would part them at other signs too.
def words_of(text):
    return [word for word in text.replace("\n", " ").split(" ") if word != ""]


def is_written_in(word, signs):
    for sign in word:
        if sign not in signs:
            return False
    return True


def is_name(word):
    if len(word) < 1 or len(word) > MOST_LETTERS or not is_written_in(word, LETTERS):
        return False
    return word not in HEAD_WORDS and word not in WORDS


def is_number_of(word, most_figures):
    figures = word[1:] if word.startswith("-") else word
    if len(figures) < 1 or len(figures) > most_figures or not is_written_in(figures, FIGURES):
        return False
    return word == "0" or figures[0] != "0"


def is_number(word):
    return is_number_of(word, MOST_FIGURES)


class Reading:
    def __init__(self, words):
        self.words = words
        self.at = 0
        self.names = []
        self.heads = []
        self.bodies = []
        self.numbered = number_names(words)
        self.counted = count_params(words)


# A call may name a function that comes later: what it stands for is found ahead of the reading.
def number_names(words):
    numbered = {}
    function = 0
    for at in range(len(words)):
        if words[at] == "fun":
            if at + 1 < len(words):
                numbered.setdefault(words[at + 1], function)
            function += 1
    return numbered


# For each word `fun`, as a tuple of its own: so they stand in for the heads that parts_due asks for.
def count_params(words):
    counted = []
    ended = len(words)
    for at in range(len(words) - 1, -1, -1):
        if words[at] == "with":
            ended = at
        if words[at] == "fun":
            counted.append((ended - at - 2,))
    counted.reverse()
    return counted


def due(reading):
    if reading.at >= len(reading.words):
        raise NoText(reading.at)
    return reading.words[reading.at]


def take_new_name(reading, there):
    name = due(reading)
    if not is_name(name) or name in there:
        raise NoText(reading.at)
    reading.at += 1
    return name


def take_boxes(reading, boxes, most, last):
    while due(reading) != last:
        if len(boxes) == most:
            raise NoText(reading.at)
        boxes.append(take_new_name(reading, boxes))
    reading.at += 1


def take_box(reading, boxes):
    name = due(reading)
    if name not in boxes:
        raise NoText(reading.at)
    reading.at += 1
    return boxes.index(name)


def take_number(reading):
    word = due(reading)
    if not is_number(word):
        raise NoText(reading.at)
    reading.at += 1
    return int(word)


def take_many(reading, least):
    at = reading.at
    many = take_number(reading)
    if many < least or many > MOST_MANY:
        raise NoText(at)
    return many


def take_called(reading):
    name = due(reading)
    if not is_name(name) or name not in reading.numbered:
        raise NoText(reading.at)
    reading.at += 1
    return reading.numbered[name]


def take_own(reading, kind, boxes):
    if kind == NUMBER:
        return (take_number(reading),)
    if kind == GET or kind == SET:
        return (take_box(reading, boxes),)
    if kind == ALL:
        return (take_many(reading, LEAST_ALL),)
    if kind == PICK:
        return (take_many(reading, LEAST_PICK),)
    if kind == CALL:
        return (take_called(reading),)
    return ()


def take_kind(reading, boxes):
    word = due(reading)
    # The word of these two is left out: what stands here is already their own number.
    if is_number(word):
        return NUMBER
    if word in boxes:
        return GET
    kind = kind_of(word)
    if kind is None:
        raise NoText(reading.at)
    reading.at += 1
    return kind


def read_node(reading, boxes, deep):
    if deep > MOST_DEEP:
        raise NoText(reading.at)
    kind = take_kind(reading, boxes)
    numbers = take_own(reading, kind, boxes)
    reading.bodies.append(kind)
    reading.bodies.extend(numbers)
    for part in range(parts_due(kind, numbers, reading.counted)):
        read_node(reading, boxes, deep + 1)


def read_function(reading):
    if due(reading) != "fun" or len(reading.names) == MOST_FUNCTIONS:
        raise NoText(reading.at)
    reading.at += 1
    name = take_new_name(reading, [named[0] for named in reading.names])
    boxes = []
    take_boxes(reading, boxes, MOST_PARAMS if reading.names else 0, "with")
    reading.heads.append(len(boxes))
    take_boxes(reading, boxes, MOST_BOXES, "is")
    reading.heads.append(len(boxes))
    reading.names.append((name, tuple(boxes)))
    read_node(reading, boxes, 1)


def read_text(text):
    if not isinstance(text, str):
        raise NoText(0)
    reading = Reading(words_of(text))
    read_function(reading)
    while reading.at < len(reading.words):
        read_function(reading)
    return (tuple(reading.names), [len(reading.names)] + reading.heads + reading.bodies)


def show_own(kind, number, boxes, names):
    if kind == GET or kind == SET:
        return boxes[number]
    if kind == CALL:
        return names[number][0]
    return str(number)


def show_body(body, boxes, names):
    words = []
    for kind, place, numbers, parts in nodes_in(body):
        if kind != NUMBER and kind != GET:
            words.append(word_of(kind))
        for number in numbers:
            words.append(show_own(kind, number, boxes, names))
    return words


def show_text(names, sheet):
    lines = []
    for named, told in zip(names, functions(sheet)):
        name, boxes = named
        params, many, body = told
        words = ["fun", name] + list(boxes[:params]) + ["with"] + list(boxes[params:]) + ["is"]
        lines.append(" ".join(words + show_body(body, boxes, names)))
    return "\n".join(lines)
