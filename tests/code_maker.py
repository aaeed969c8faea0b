"""Code and papers made by chance, mostly by changing good ones a little."""

from model_judge import FORMS, OPS, UNARIES
from upvalues.code import Code

JUNK = [None, True, False, -1, 0, 1, 2, 3, 5, 400, 401, 2000, 2001, "x", "", (), [], 1.5, ("reg", 0), ("up", 0), 10 ** 30, "x" * 201, chr(127)]
UPVALUES = [
    [], [("up", 0)], [("reg", 1)], [("up", 1)], [5], [("x", 0)], 5, None, (("up", 0),), [("reg", -1)], [("reg", True)], [("reg", 2001)],
    [("reg", 2000)], [["reg", 0]], [("reg",)], [([], 0)],
]


def some_part(chance, kind, size, places, functions, upvalues):
    pick = chance.choice
    if kind in "rx":
        return chance.randint(0, size)
    if kind in "upf":
        return chance.randint(0, {"u": upvalues, "p": places, "f": functions}[kind])
    return {
        "n": lambda: pick([0, 0, 1, 1, 2, 3]), "w": lambda: pick([None, 0, 1, 1, 2]), "b": lambda: pick([False, False, True]),
        "t": lambda: "s", "o": lambda: pick(OPS), "q": lambda: pick(UNARIES), "v": lambda: pick([None, True, 5, "s"]),
    }[kind]()


def some_instruction(chance, size, places, functions, upvalues):
    word = chance.choice(list(FORMS))
    return (word,) + tuple(some_part(chance, kind, size, places, functions, upvalues) for kind in FORMS[word])


def some_code(chance, number, many):
    size, places = chance.randint(1, 7), chance.randint(1, 9)
    ups = [("up", 0)]
    if number > 0:
        ups = [chance.choice([("up", 0), ("reg", chance.randint(0, 3))]) for _ in range(chance.randint(0, 2))]
    most = lambda limit, part=0.95: limit - 1 if chance.random() < part else limit
    parts = [some_instruction(chance, most(size), most(places), many - 1, max(0, len(ups) - 1)) for _ in range(places)]
    if chance.random() < 0.8:
        parts = [("load", chance.randint(0, size - 1), 1) for _ in range(chance.randint(0, 4))] + parts
    if chance.random() < 0.9:
        parts.append(("return", 0, 0, False))
    lives = [chance.choice([size, size, size, chance.randint(0, size)]) for _ in parts]
    return Code(0 if number == 0 else chance.randint(0, size), chance.random() < 0.5, size, ups, parts, [1] * len(parts), lives)


def some_codes(chance):
    many = chance.randint(1, 3)
    return [some_code(chance, number, many) for number in range(many)]


def copied(codes):
    return [Code(*code.all_parts()) for code in codes]


def changed(chance, codes):
    """A copy of codes of good form, with one thing changed."""
    codes = copied(codes)
    code = chance.choice(codes)
    many = len(code.instructions)
    at = chance.randrange(many)
    odds = chance.random()
    if odds < 0.3:
        code.instructions[at] = changed_part(chance, code.instructions[at])
    elif odds < 0.6:
        code.instructions[at] = some_instruction(chance, max(0, code.size - 1), many - 1, len(codes) - 1, max(0, len(code.upvalues) - 1))
    elif odds < 0.75:
        code.lives[at] = chance.choice([0, max(0, code.lives[at] - 1), code.size, chance.choice(JUNK)])
    elif odds < 0.8:
        del code.instructions[at], code.lines[at], code.lives[at]
    elif odds < 0.85:
        code.instructions.insert(at, chance.choice(code.instructions))
        code.lines.insert(at, 1)
        code.lives.insert(at, code.size)
    elif odds < 0.9:
        code.lines[at] = chance.choice(JUNK)
    elif odds < 0.95:
        setattr(code, chance.choice(["params", "size", "has_dots"]), chance.choice(JUNK))
    else:
        code.upvalues = chance.choice(UPVALUES)
    return codes


def changed_part(chance, part):
    part = list(part)
    if len(part) > 1:
        at = chance.randrange(1, len(part))
        if type(part[at]) is int and chance.random() < 0.8:
            part[at] = max(0, part[at] + chance.choice([-2, -1, 1, 1, 2]))
        else:
            part[at] = chance.choice(JUNK)
    return tuple(part)


def changed_paper(chance, codes, paper):
    """A copy of a paper with one thing changed."""
    paper = [list(rows) for rows in paper]
    number = chance.randrange(len(paper))
    rows, size = paper[number], codes[number].size
    at = chance.randrange(len(rows))
    odds = chance.random()
    if odds < 0.05:
        rows[at] = None
    elif odds < 0.08:
        rows[at] = chance.choice(JUNK + [(1, 2, 3, 4, 5, 6)])
    elif odds < 0.1:
        return chance.choice([None, tuple(paper), paper[:-1], paper + [[]], [tuple(rows) for rows in paper]])
    elif rows[at] is None:
        rows[at] = ((), (False,), (), (), (), chance.randint(0, 3))
    else:
        rows[at] = changed_row(chance, size, list(rows[at]))
    return paper


def changed_row(chance, size, row):
    place = chance.randrange(6)
    if place == 1:
        row[1] = chance.choice([(False,), (True,), (False, True), (True, False), (0,), (0, 1), (), [False]])
    elif place == 5:
        row[5] = chance.choice([row[5] - 1, row[5] + 1, row[5] + 1, 2 ** 30, 2 ** 30 + 1, True, -1, 0])
    else:
        registers = list(row[place])
        odds = chance.random()
        if odds < 0.45 and registers:
            del registers[chance.randrange(len(registers))]
        elif odds < 0.9:
            registers = sorted(set(registers + [chance.randrange(size + 1)]))
        else:
            registers = chance.choice([registers[::-1], registers + registers, registers + [True], registers + [-1], registers + ["x"]])
        row[place] = tuple(registers)
    return tuple(row)
