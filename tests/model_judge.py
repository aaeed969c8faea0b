"""[69] and [70] word by word: what the form of code is, and what can go wrong on a way through it."""

from upvalues.code import Code
from upvalues.numbers import Float

OPS = "add sub mul div floor mod band bor bxor shl shr concat eq ne lt le gt ge".split()
UNARIES = "neg not len bnot".split()
# The kinds of the parts behind the word.
FORMS = {
    "move": "rr", "load": "rv", "upget": "ru", "upset": "ur", "get": "rrr", "set": "rrr", "self": "rrt",
    "table": "rnn", "append": "rxnnb", "op": "rorr", "unary": "rqr", "function": "rf",
    "jump": "p", "if": "rp", "unless": "rp", "round": "", "forbegin": "rp", "fornext": "rp",
    "eachcall": "rn", "eachnext": "rp", "call": "rnbw", "tail": "rnb", "return": "xnb", "dots": "xw",
    "mark": "r", "close": "r",
}
CALLING = "get set self op unary call eachcall close".split()
PIECES = ("round", "call", "eachcall")


def is_int(thing, least=0, most=None):
    return type(thing) is int and thing >= least and (most is None or thing <= most)


def is_text(thing):
    return type(thing) is str and len(thing) <= 200 and all(1 <= ord(sign) <= 126 for sign in thing)


def has_kind(kind, thing):
    if kind in "rxupf":
        return is_int(thing)
    if kind == "n":
        return is_int(thing, 0, 400)
    if kind == "w":
        return thing is None or is_int(thing, 0, 2000)
    if kind == "b":
        return type(thing) is bool
    if kind == "t":
        return is_text(thing)
    if kind == "o":
        return thing in OPS
    if kind == "q":
        return thing in UNARIES
    return thing is None or type(thing) is bool or is_text(thing) or isinstance(thing, Float) or is_int(thing, -(2 ** 63), 2 ** 63 - 1)


def form_fault(code, is_main):
    """What is amiss in a Code but for its instructions, or None."""
    if not all(type(rows) is list for rows in (code.upvalues, code.instructions, code.lines, code.lives)):
        return "lists"
    if not is_int(code.size, 0, 2000) or not is_int(code.params, 0, code.size) or type(code.has_dots) is not bool:
        return "head"
    for up in code.upvalues:
        if type(up) is not tuple or len(up) != 2 or up[0] not in ("reg", "up") or not is_int(up[1], 0, 2000):
            return "upvalues"
    if is_main and (code.params != 0 or code.upvalues != [("up", 0)]):
        return "main"
    many = len(code.instructions)
    if many == 0 or len(code.lines) != many or len(code.lives) != many:
        return "lengths"
    if not all(is_int(line, 0, 400) for line in code.lines) or not all(is_int(live, 0, code.size) for live in code.lives):
        return "lines or lives"
    return None


def reads(codes, part):
    word = part[0]
    if word in ("move", "upset", "if", "unless", "mark"):
        return [part[1] if word in ("if", "unless", "mark") else part[2]]
    if word == "get":
        return [part[2], part[3]]
    if word == "set":
        return [part[1], part[2], part[3]]
    if word == "self":
        return [part[2]]
    if word == "append":
        return [part[1]] + list(range(part[2], part[2] + part[3]))
    if word == "op":
        return [part[3], part[4]]
    if word == "unary":
        return [part[3]]
    if word == "function":
        return [place for kind, place in codes[part[2]].upvalues if kind == "reg"]
    if word in ("forbegin", "eachcall"):
        return list(range(part[1], part[1] + 3))
    if word == "eachnext":
        return [part[1] + 4]
    if word in ("call", "tail"):
        return list(range(part[1], part[1] + 1 + part[2]))
    if word == "return":
        return list(range(part[1], part[1] + part[2]))
    return []


def writes(part):
    """What an instruction writes wherever it goes on."""
    word = part[0]
    if word in ("move", "load", "upget", "get", "table", "op", "unary", "function"):
        return [part[1]]
    if word == "self":
        return [part[1], part[1] + 1]
    if word == "eachcall":
        return list(range(part[1] + 4, part[1] + 4 + part[2]))
    if word == "call":
        return list(range(part[1], part[1] + (part[4] or 0)))
    if word == "dots":
        return list(range(part[1], part[1] + (part[2] or 0)))
    return []


def steps(at, part):
    """(place, what is written on this way) for each way on."""
    word = part[0]
    if word in ("return", "tail"):
        return []
    if word == "jump":
        return [(part[1], [])]
    if word in ("if", "unless"):
        return [(at + 1, []), (part[2], [])]
    if word == "forbegin":
        return [(at + 1, [part[1] + 3]), (part[2], [])]
    if word == "fornext":
        return [(at + 1, []), (part[2], [part[1] + 3])]
    if word == "eachnext":
        return [(at + 1, []), (part[2], [part[1] + 2])]
    return [(at + 1, writes(part))]


def named(codes, part):
    """How many registers an instruction needs; what a new function captures is asked for later."""
    word = part[0]
    if word == "function":
        return part[1] + 1
    every = reads(codes, part) + writes(part) + [part[1 + at] for at, kind in enumerate(FORMS[word]) if kind == "r"]
    if word in ("forbegin", "fornext"):
        every.append(part[1] + 3)
    if word == "eachnext":
        every += [part[1] + 2, part[1] + 4]
    least = max([one + 1 for one in every], default=0)
    firsts = [part[1 + at] for at, kind in enumerate(FORMS[word]) if kind == "x"]
    if word == "eachcall":
        firsts.append(part[1] + 4)
    return max([least] + firsts)


def refused(codes, code, part, is_last):
    if type(part) is not tuple or not part or part[0] not in FORMS or len(part) != len(FORMS[part[0]]) + 1:
        return "form"
    kinds = FORMS[part[0]]
    if not all(has_kind(kind, thing) for kind, thing in zip(kinds, part[1:])):
        return "form"
    if named(codes, part) > code.size:
        return "register"
    for kind, thing in zip(kinds, part[1:]):
        if kind == "u" and thing >= len(code.upvalues):
            return "upvalue"
        if kind == "p" and thing >= len(code.instructions):
            return "jump"
        if kind == "f" and thing >= len(codes):
            return "function"
    if part[0] == "function":
        for kind, place in codes[part[2]].upvalues:
            if place >= (code.size if kind == "reg" else len(code.upvalues)):
                return "register" if kind == "reg" else "upvalue"
    if is_last and part[0] not in ("jump", "tail", "return"):
        return "end"
    return None


class Ways:
    """What is known of one Code at each place, on all ways and on some way."""

    def __init__(self, codes, code):
        self.codes = codes
        self.code = code
        self.parts = code.instructions
        self.before = {0: (frozenset(range(code.params)), frozenset([False]), frozenset(), frozenset())}
        waiting = [0]
        while waiting:
            at = waiting.pop()
            for target, state in self.after(at):
                old = self.before.get(target)
                new = state
                if old is not None:
                    new = (old[0] & state[0], old[1] | state[1], old[2] | state[2], old[3] & state[3])
                if new != old:
                    self.before[target] = new
                    waiting.append(target)
        self.needs()

    def after(self, at):
        written, _, pending, plans = self.before[at]
        part = self.parts[at]
        row = part[0] in ("call", "dots") and part[-1] is None
        if part[0] == "mark":
            pending = pending | {part[1]}
        if part[0] == "close":
            pending = frozenset(one for one in pending if one < part[1])
        for target, more in steps(at, part):
            goes = plans
            if part[0] == "forbegin":
                goes = plans | {part[1]} if more else plans - {part[1]}
            if part[0] == "fornext" and not more:
                goes = plans - {part[1]}
            yield target, (written | set(more), frozenset([row]), pending, goes)

    def needs(self):
        self.needed = {at: frozenset() for at in self.before}
        changed = True
        while changed:
            changed = False
            for at in sorted(self.before, reverse=True):
                part = self.parts[at]
                new = self.behind(at) | set([] if part[0] in ("if", "unless") else reads(self.codes, part))
                if new != self.needed[at]:
                    self.needed[at] = frozenset(new)
                    changed = True

    def behind(self, at, but=()):
        """What is read later on some way, ahead of being written, by what comes behind a place."""
        found = set()
        for target, more in steps(at, self.parts[at]):
            found |= self.needed[target] - (set(more) - set(but))
        return found

    def fault(self, at):
        written, rows, pending, plans = self.before[at]
        part = self.parts[at]
        word = part[0]
        is_open = {"append": part[-1], "call": part[3:4] == (True,), "tail": part[-1], "return": part[-1]}.get(word, False)
        if rows != {is_open}:
            return "row"
        if not set(reads(self.codes, part)) <= written:
            return "read"
        if word == "mark" and any(one >= part[1] for one in pending):
            return "mark"
        if word == "tail" and pending:
            return "tail"
        if word == "fornext" and part[1] not in plans:
            return "plan"
        if word in CALLING and part[:1] + part[2:3] != ("unary", "not"):
            but = [part[1] + 1] if word == "self" else []
            if any(one >= self.code.lives[at] for one in self.behind(at, but)):
                return "live"
        if self.is_loop(at):
            return "loop"
        return None

    def is_loop(self, first):
        seen = set()
        waiting = [first]
        while waiting:
            at = waiting.pop()
            if self.parts[at][0] in PIECES:
                continue
            for target, _ in steps(at, self.parts[at]):
                if target == first:
                    return True
                if target not in seen:
                    seen.add(target)
                    waiting.append(target)
        return False


def head_fault(codes):
    """(function, None, "form") for what is wrong but for the instructions, or None."""
    if not isinstance(codes, (list, tuple)) or len(codes) == 0 or not all(isinstance(code, Code) for code in codes):
        return (None, None, "form")
    for number, code in enumerate(codes):
        if form_fault(code, number == 0) is not None:
            return (number, None, "form")
    return None


def part_fault(codes, number):
    """(function, place, word) for the first instruction of a Code that is refused by itself, or None."""
    code = codes[number]
    for at, part in enumerate(code.instructions):
        word = refused(codes, code, part, at == len(code.instructions) - 1)
        if word is not None:
            return (number, at, word)
    return None


def code_fault(codes):
    """(function, place, word) for the first thing that is wrong in a program of code, or None."""
    fault = head_fault(codes)
    if fault is not None:
        return fault
    for number, code in enumerate(codes):
        fault = part_fault(codes, number)
        if fault is not None:
            return fault
        ways = Ways(codes, code)
        for at in sorted(ways.before):
            word = ways.fault(at)
            if word is not None:
                return (number, at, word)
    return None


# Papers, by [71].

def paper_rows(codes, code):
    """What a paper tells of each place of a Code that passes."""
    ways = Ways(codes, code)
    rows = []
    for at in range(len(code.instructions)):
        if at not in ways.before:
            rows.append(None)
            continue
        written, left, pending, plans = ways.before[at]
        told = (False,) if left == {False} else (True,) if left == {True} else (False, True)
        rows.append((ordered(written), told, ordered(pending), ordered(plans), ordered(ways.needed[at]), longest(code, at, {})))
    return rows


def ordered(registers):
    return tuple(sorted(registers))


def longest(code, at, known):
    """How many instructions can be done from a place on ahead of one that counts, or ends."""
    if at not in known:
        part = code.instructions[at]
        if part[0] in PIECES + ("return", "tail"):
            known[at] = 0
        else:
            known[at] = 1 + max(longest(code, target, known) for target, _ in steps(at, part))
    return known[at]


def is_row(row, size):
    if type(row) is not tuple or len(row) != 6:
        return False
    for registers in row[:1] + row[2:5]:
        if type(registers) is not tuple or not all(is_int(one, 0, size - 1) for one in registers):
            return False
        if list(registers) != sorted(set(registers)):
            return False
    if type(row[1]) is not tuple or not all(type(one) is bool for one in row[1]):
        return False
    return row[1] in [(False,), (True,), (False, True)] and is_int(row[5], 0, 2 ** 30)


def is_shown(codes, paper):
    """Whether a thing is a paper for code whose form is good."""
    if type(paper) is not list or len(paper) != len(codes):
        return False
    for code, rows in zip(codes, paper):
        if type(rows) is not list or len(rows) != len(code.instructions):
            return False
        if not all(row is None or is_row(row, code.size) for row in rows):
            return False
        first = rows[0]
        if first is None or not set(first[0]) <= set(range(code.params)) or False not in first[1] or first[3]:
            return False
        if not all(row is None or is_row_shown(codes, code, rows, at) for at, row in enumerate(rows)):
            return False
    return True


def is_row_shown(codes, code, rows, at):
    part = code.instructions[at]
    word = part[0]
    written, left, pending, plans, needed, rank = rows[at]
    if any(rows[target] is None for target, _ in steps(at, part)):
        return False
    # The words of [70] are asked of what the row tells, as if it were true.
    ways = Ways.__new__(Ways)
    ways.codes, ways.code, ways.parts = codes, code, code.instructions
    ways.before = {at: (frozenset(written), frozenset(left), frozenset(pending), frozenset(plans))}
    ways.needed = {target: frozenset(rows[target][4]) for target, _ in steps(at, part)}
    ways.is_loop = lambda first: False
    if ways.fault(at) is not None:
        return False
    for target, (more, behind, marked, going) in ways.after(at):
        other = rows[target]
        if not set(other[0]) <= more or not set(other[3]) <= going:
            return False
        if not behind <= set(other[1]) or not marked <= set(other[2]):
            return False
        if word not in PIECES and other[5] >= rank:
            return False
    own = [] if word in ("if", "unless") else reads(codes, part)
    return set(own) | ways.behind(at) <= set(needed)
