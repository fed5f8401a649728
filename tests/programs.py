"""What several tests draw on: random programs, and a second reader and runner, written another way than the package's.

A node is here (kind, own numbers, parts), lists within; `placed` makes the tuple of it that [7] tells.
"""

import re

SIXTY = 10 ** 60 - 1

# Two parts: 8 to 16; one: 18; three: 17; none: 19.
TWO_PARTS = tuple(range(8, 17))

WORDS = {
    2: "set", 3: "all", 4: "pick", 5: "loop", 6: "call", 7: "fail", 8: "add", 9: "sub", 10: "mul", 11: "quo",
    12: "rest", 13: "less", 14: "same", 15: "push", 16: "at", 17: "put", 18: "size", 19: "new",
}
KINDS = {word: kind for kind, word in WORDS.items()}
RESERVED = ["fun", "with", "is"] + list(KINDS)


def any_number(dice):
    return dice.randint(-SIXTY, SIXTY)


def small_number(dice):
    return dice.choice((0, 0, 1, 1, 1, 2, 3, -1, dice.randint(-9, 9), 10 ** 55))


def random_node(dice, heads, boxes, deep, value):
    kinds = [0, 19] + ([1] if boxes else [])
    if deep < 10 and dice.random() < 0.8:
        kinds = [2] * (boxes > 0) + [3, 4, 5, 6, 7, 17, 18] + list(TWO_PARTS)
    kind = dice.choice(kinds)
    own, many = [], {5: 2, 7: 1, 17: 3, 18: 1, 19: 0}.get(kind, 2)
    if kind == 0:
        own, many = [value(dice)], 0
    elif kind in (1, 2):
        own, many = [dice.randrange(boxes)], kind - 1
    elif kind == 3:
        own = [dice.randint(1, 3)]
        many = own[0]
    elif kind == 4:
        own = [dice.randint(2, 3)]
        many = own[0] + 1
    elif kind == 6:
        own = [dice.randrange(len(heads))]
        many = heads[own[0]][0]
    parts = [random_node(dice, heads, boxes, deep + 1 + dice.randrange(4), value) for part in range(many)]
    return (kind, own, parts)


def placed(node, start):
    # The tuple of a node that begins at `start`, as [7] tells it, and the place behind it.
    kind, own, parts = node
    place = start + 1 + len(own)
    told = []
    for part in parts:
        tuple_of_part, place = placed(part, place)
        told.append(tuple_of_part)
    return (kind, start, tuple(own), tuple(told)), place


def written(node):
    kind, own, parts = node
    numbers = [kind] + own
    for part in parts:
        numbers += written(part)
    return numbers


def random_program(dice, value=any_number):
    heads = []
    for function in range(dice.randint(1, 4)):
        params = dice.randint(0, 4) if function else 0
        heads.append((params, dice.randint(params, 12)))
    bodies = [random_node(dice, heads, boxes, 1, value) for params, boxes in heads]
    sheet = [len(heads)]
    for params, boxes in heads:
        sheet += [params, boxes]
    told = []
    for (params, boxes), body in zip(heads, bodies):
        node, place = placed(body, len(sheet))
        told.append((params, boxes, node))
        sheet += written(body)
    return sheet, told


def random_programs(dice, many, value=any_number):
    programs = []
    while len(programs) < many:
        sheet, told = random_program(dice, value)
        if len(sheet) <= 400:
            programs.append((sheet, told))
    return programs


def random_names(dice, told):
    # Of few letters, so that functions and boxes often bear one name.
    def unlike(many):
        names = []
        while len(names) < many:
            name = "".join(dice.choice("abz") for letter in range(dice.randint(1, 8)))
            if name not in names:
                names.append(name)
        return names
    return tuple((name, tuple(unlike(boxes))) for name, (params, boxes, body) in zip(unlike(len(told)), told))


def second_read(text):
    """(names, sheet), or the number of the word at which the text is refused: by a list of what is due."""
    words = re.findall("[^ \n]+", text)
    starts = [at for at, word in enumerate(words) if word == "fun"]
    names, heads, bodies, boxes, due, at = [], [], [], [], ["fun"], 0
    while due or at < len(words):
        what = due.pop() if due else "fun"
        if at == len(words):
            return at
        word = words[at]
        is_name = re.fullmatch("[a-z]{1,8}", word) and word not in RESERVED
        is_number = re.fullmatch("0|-?[1-9][0-9]{0,59}", word)
        if what == "fun":
            if word != "fun" or len(names) == 16:
                return at
            due = ["with", "name"]
        elif what == "name":
            if not is_name or word in names:
                return at
            names.append(word)
            boxes.append([])
        elif what == "with" and word == "with":
            heads.append([len(boxes[-1])])
            due = ["is"]
        elif what == "is" and word == "is":
            heads[-1].append(len(boxes[-1]))
            due = [1]
        elif what in ("with", "is"):
            most = 12 if what == "is" else 4 if len(names) > 1 else 0
            if not is_name or word in boxes[-1] or len(boxes[-1]) == most:
                return at
            boxes[-1].append(word)
            due = [what]
        elif what in ("all", "pick"):
            least = 1 if what == "all" else 2
            if not is_number or not least <= int(word) <= 12:
                return at
            bodies.append(int(word))
            due += [due.pop()] * (int(word) + least - 1)
        elif what == "box":
            if word not in boxes[-1]:
                return at
            bodies.append(boxes[-1].index(word))
        elif what == "call":
            named = [start for start in starts if words[start + 1:start + 2] == [word]]
            if not is_name or not named:
                return at
            behind = words[named[0] + 2:]
            bodies.append(starts.index(named[0]))
            due += [due.pop()] * (behind.index("with") if "with" in behind else len(behind))
        elif what > 10 or not (is_number or word in boxes[-1] or word in KINDS):
            return at
        elif is_number:
            bodies += [0, int(word)]
        elif word in boxes[-1]:
            bodies += [1, boxes[-1].index(word)]
        else:
            bodies.append(KINDS[word])
            many = {"set": 1, "loop": 2, "fail": 1, "put": 3, "size": 1, "new": 0}.get(word, 2)
            if word in ("all", "pick", "call"):
                due += [what + 1, word]
            else:
                due += [what + 1] * many + ["box"] * (word == "set")
        at += 1
    told = tuple((name, tuple(own)) for name, own in zip(names, boxes))
    return told, [len(names)] + [number for head in heads for number in head] + bodies


def steps_of(node):
    """Steps for a list of values, of a node of [7]; jumps tell how many steps on they lead (or back)."""
    kind, place, own, parts = node
    steps = [steps_of(part) for part in parts]
    if kind == 0:
        return [("value", own[0])]
    if kind == 1:
        return [("box", own[0])]
    if kind == 2:
        return steps[0] + [("keep", own[0])]
    if kind == 3:
        joined = steps[0]
        for step in steps[1:]:
            joined = joined + [("forget", 0)] + step
        return joined
    if kind == 4:
        joined = [("forget", 0)] + steps[-1]
        for number, step in reversed(list(enumerate(steps[1:-1]))):
            asked = [("unless_same", (number, len(step) + 3)), ("forget", 0)]
            joined = asked + step + [("skip", len(joined) + 1)] + joined
        return steps[0] + joined
    if kind == 5:
        around = [("breath", 0)] + steps[0] + [("unless", len(steps[1]) + 3)] + steps[1] + [("forget", 0)]
        return around + [("skip", -len(around)), ("value", 0)]
    joined = [step for part in steps for step in part]
    if kind == 6:
        return joined + [("call", own[0])]
    if kind == 7:
        return joined + [("fail", 0)]
    return joined + [("deed", (kind, len(parts)))]


def second_deed(kind, values, rows):
    """A fault's word or a value, reckoned another way than by Python's // and %."""
    if kind in (8, 9, 10):
        first, second = values
        value = {8: first + second, 9: first - second, 10: first * second}[kind]
        return "great" if len(str(abs(value))) > 100 else value
    if kind in (11, 12):
        first, second = values
        if second == 0:
            return "zero"
        value = abs(first) // abs(second)
        if (first < 0) != (second < 0):
            value = -value
            if value * second != first:
                value -= 1
        return value if kind == 11 else first - value * second
    if kind in (13, 14):
        return int(values[0] < values[1]) if kind == 13 else int(values[0] == values[1])
    if kind == 19:
        rows.append([])
        return len(rows) - 1
    if values[0] not in range(len(rows)):
        return "row"
    row = rows[values[0]]
    if kind == 18:
        return len(row)
    if kind == 15:
        row += [values[1]]
        return values[1]
    if values[1] not in range(len(row)):
        return "place"
    if kind == 17:
        row[values[1]:values[1] + 1] = [values[2]]
    return row[values[1]]


def second_run(told, given, breaths):
    """The outcome of functions as [7] tells them, by steps and a list of what is being done."""
    code = [steps_of(body) + [("back", 0)] for params, boxes, body in told]
    rows, frames, values, breaths = [list(given), []], [], [], breaths - 1
    if breaths < 0:
        return ("breath", 0, [])
    frames.append([0, 0, [0] * told[0][1]])
    while True:
        frame = frames[-1]
        word, number = code[frame[0]][frame[1]]
        frame[1] += 1
        if word == "value":
            values.append(number)
        elif word == "box":
            values.append(frame[2][number])
        elif word == "keep":
            frame[2][number] = values[-1]
        elif word == "forget":
            values.pop()
        elif word == "skip":
            frame[1] += number - 1
        elif word == "unless":
            frame[1] += 0 if values.pop() != 0 else number - 1
        elif word == "unless_same":
            frame[1] += 0 if values[-1] == number[0] else number[1] - 1
        elif word == "fail":
            return ("told", values[-1], rows[1])
        elif word == "back":
            frames.pop()
            if not frames:
                return ("done", values[-1], rows[1])
        elif word == "deed":
            kind, many = number
            values, taken = values[:len(values) - many], values[len(values) - many:]
            value = second_deed(kind, taken, rows)
            if isinstance(value, str):
                return (value, 0, rows[1])
            values.append(value)
        else:
            if word == "call" and len(frames) == 16:
                return ("deep", 0, rows[1])
            if breaths == 0:
                return ("breath", 0, rows[1])
            breaths -= 1
            if word == "call":
                params, boxes, body = told[number]
                values, taken = values[:len(values) - params], values[len(values) - params:]
                frames.append([number, 0, taken + [0] * (boxes - params)])


OPS = ("push", "get", "set", "drop", "jump", "unless", "call", "back", "fail", "breath", "do", "pick")


class Ended(Exception):
    pass


def second_go(code, given, breaths, most):
    """The outcome of a code, by a call of Python's for each function that is being done."""
    heads = [code[at:at + 3] for at in range(1, 1 + 3 * code[0], 3)]
    numbers = code[1 + 3 * code[0]:]
    rows, left = [list(given), []], {"breath": breaths, "rows": most}

    def take(what):
        if left[what] < 1:
            raise Ended(what, 0)
        left[what] -= 1

    def function(number, values, deep):
        start, params, boxes = heads[number]
        own, held, at = (values + [0] * 12)[:boxes], [], start

        def off(many):
            if len(held) < many:
                raise Ended("stray", 0)
            taken = held[len(held) - many:]
            held[len(held) - many:] = []
            return taken

        while True:
            if 2 * at >= len(numbers):
                raise Ended("stray", 0)
            take("rows")
            word, number = OPS[numbers[2 * at]], numbers[2 * at + 1]
            at += 1
            if word in ("get", "set") and number >= boxes:
                raise Ended("stray", 0)
            if word == "push":
                held += [number]
            elif word == "get":
                held += [own[number]]
            elif word == "set":
                own[number] = off(1)[0]
                held += [own[number]]
            elif word == "jump":
                at = number
            elif word == "breath":
                take("breath")
            elif word == "call":
                taken = off(heads[number][1])
                if deep == 16:
                    raise Ended("deep", 0)
                take("breath")
                held += [function(number, taken, deep + 1)]
            elif word == "do":
                value = second_deed(number, off({17: 3, 18: 1, 19: 0}.get(number, 2)), rows)
                if isinstance(value, str):
                    raise Ended(value, 0)
                held += [value]
            else:
                value, = off(1)
                if word == "back":
                    return value
                if word == "fail":
                    raise Ended("told", value)
                if word == "unless" and value == 0:
                    at = number
                if word == "pick":
                    at += value if value in range(number) else number - 1

    try:
        take("breath")
        return ("done", function(0, [], 1), rows[1])
    except Ended as ended:
        return ended.args + (rows[1],)


def second_rows(node, begin, paper):
    """The rows of a node whose first row is known, and its line and its parts' put to the paper."""
    kind, place, own, parts = node
    rows = []
    if kind == 4:
        rows = second_rows(parts[0], begin, paper) + [(11, own[0])]
        middle = begin + len(rows) + own[0]
        jumps, behind = [], []
        for part in parts[1:]:
            jumps.append((4, middle + 1 + len(behind)))
            behind += second_rows(part, jumps[-1][1], paper) + [(4, middle)]
        rows += jumps + [(4, middle + len(behind))] + behind[:-1]
    elif kind == 5:
        first = second_rows(parts[0], begin + 1, paper)
        second = second_rows(parts[1], begin + 2 + len(first), paper)
        out = begin + 4 + len(first) + len(second)
        rows = [(9, 0)] + first + [(5, out)] + second + [(3, 0), (4, begin), (0, 0)]
    else:
        for part in parts:
            if kind == 3 and rows:
                rows.append((3, 0))
            rows += second_rows(part, begin + len(rows), paper)
        if kind != 3:
            op = {0: 0, 1: 1, 2: 2, 6: 6, 7: 8}.get(kind, 10)
            rows.append((op, own[0] if own else kind if op == 10 else 0))
    paper[place] = (begin, begin + len(rows))
    return rows


def second_made(told):
    """(heads, rows, paper) of functions as [7] tells them."""
    heads, rows, paper = [], [], {}
    for params, boxes, body in told:
        heads.append((len(rows), params, boxes))
        rows += second_rows(body, len(rows), paper) + [(7, 0)]
    return heads, rows, [(place,) + paper[place] for place in sorted(paper)]


def second_meant(rows, at):
    seen = []
    while at < len(rows) and rows[at][0] == 4 and at not in seen:
        seen.append(at)
        at = rows[at][1]
    return at if at < len(rows) and rows[at][0] != 4 else None


def second_fixed(node):
    kind, place, own, parts = node
    if kind == 0:
        return own[0]
    if kind not in range(8, 15):
        return None
    values = [second_fixed(part) for part in parts]
    value = "none" if None in values else second_deed(kind, values, [])
    return None if isinstance(value, str) else value


def ways_to_be_right(node, at, rows):
    """Ways as (parts, steps, pairs): steps are (row meant, what it is, row where it leads then), pairs rows that meet.

    `at` tells of a node the rows at which it begins and ends, meant; all rows here are meant, or None.
    """
    kind, place, own, parts = node
    begin, end = at(node)
    ways = []
    if second_fixed(node) is not None:
        ways.append(([], [(begin, (0, second_fixed(node)), end)], []))
    if kind == 4 and second_fixed(parts[0]) is not None:
        value = second_fixed(parts[0])
        one = parts[1:][value if value in range(own[0]) else -1]
        ways.append(([one], [], [(at(one)[0], begin), (at(one)[1], end)]))
    begins, ends = [at(part)[0] for part in parts], [at(part)[1] for part in parts]
    if kind == 3:
        steps = [(one, (3, 0), other) for one, other in zip(ends, begins[1:])]
        ways.append((parts, steps, [(begins[0], begin), (ends[-1], end)]))
    elif kind == 4:
        pick = ends[0]
        steps = [] if pick is None else [(pick + number, None, other) for number, other in enumerate(begins[1:])]
        pairs = [(begins[0], begin), (pick, pick)] + [(other, end) for other in ends[1:]]
        if pick is None or rows[pick] == (11, own[0]):
            ways.append((parts, steps, pairs))
    elif kind == 5:
        if ends[0] is not None and rows[ends[0]][0] == 5:
            out = rows[ends[0]][1]
            steps = [(begin, (9, 0), begins[0]), (ends[0], (5, out), begins[1]), (ends[1], (3, 0), begin)]
            ways.append((parts, steps + [(second_meant(rows, out), (0, 0), end)], []))
    elif kind == 7:
        ways.append((parts, [(ends[0], (8, 0), "any")], [(begins[0], begin)]))
    elif kind > 0:
        op = {1: 1, 2: 2, 6: 6}.get(kind, 10)
        chain = [begin] + ends
        steps = [(chain[-1], (op, kind if op == 10 else own[0]), end)]
        ways.append((parts, steps, list(zip(chain, begins))))
    return ways


def second_lets_by(told, heads, rows, paper):
    """Whether a paper of any kind is let by, for functions as [7] tells them."""
    lines, places = {}, []

    def note_places(node):
        places.append(node[1])
        for part in node[3]:
            note_places(part)

    for params, boxes, body in told:
        note_places(body)
    if [function[:2] for function in told] != [tuple(head[1:]) for head in heads] or type(paper) is not list:
        return False
    for line in paper:
        if type(line) is not tuple or [type(number) for number in line] != [int] * 3 or line[0] in lines:
            return False
        if line[0] not in places or line[1] not in range(len(rows)) or line[2] not in range(len(rows) + 1):
            return False
        lines[line[0]] = (second_meant(rows, line[1]), second_meant(rows, line[2]))

    def at(node):
        return lines.get(node[1], (None, None))

    def leads(step):
        row, what, to = step
        if row is None or what is not None and rows[row] != what:
            return False
        return to == "any" or to is not None and second_meant(rows, row + 1) == to

    def right(node):
        for parts, steps, pairs in ways_to_be_right(node, at, rows) if node[1] in lines else []:
            if all(one is not None and one == other for one, other in pairs) and all(leads(step) for step in steps):
                if all(right(part) for part in parts):
                    return True
        return False

    for head, (params, boxes, body) in zip(heads, told):
        begin, end = at(body)
        if begin is None or second_meant(rows, head[0]) != begin or end is None or rows[end] != (7, 0):
            return False
        if not right(body):
            return False
    return True


def second_wrong(numbers):
    """None, or (place, word): by a list of what is due, the last one first, each as (what, ..)."""
    heads, due, at = [], [("many",)], 0
    while due:
        what, *more = due.pop()
        if what == "node" and more[1] > 10:
            return (at, "deep")
        if at == len(numbers):
            return (at, "end")
        number = numbers[at]
        if what == "many":
            least, most = 1, 16
        elif what == "params":
            least, most = 0, 4 if heads else 0
        elif what == "boxes":
            least, most = heads[-1][0], 12
        elif what == "node":
            least, most = 0, 19
        else:
            least, most = more[0]
        if not least <= number <= most:
            return (at, "range")
        at += 1
        if what == "many":
            due = [("bodies",)] + [("boxes",), ("params",)] * number
        elif what == "params":
            heads.append([number])
        elif what == "boxes":
            heads[-1].append(number)
            if due == [("bodies",)]:
                due = [("node", boxes, 1) for params, boxes in reversed(heads)]
        elif what == "node":
            boxes, deep = more
            part = ("node", boxes, deep + 1)
            if number in (3, 4):
                due.append(("parts", (number - 2, 12), number - 3, part))
            elif number == 6:
                due.append(("called", (0, len(heads) - 1), part))
            else:
                due += [part] * {0: 0, 1: 0, 2: 1, 7: 1, 17: 3, 18: 1, 19: 0}.get(number, 2)
                if number < 3:
                    due.append(("own", (0, boxes - 1) if number else (-10 ** 200, 10 ** 200)))
        elif what == "parts":
            due += [more[2]] * (number + more[1])
        elif what == "called":
            due += [more[1]] * heads[number][0]
    return None if at == len(numbers) else (at, "over")
