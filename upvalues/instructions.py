"""The form of code: what its parts may be, and what each instruction names, reads and writes.

Sets of registers are integers: the bit of a register is set if it is one of them.
"""

from upvalues.code import Code
from upvalues.errors import InvalidCode
from upvalues.forms import BINARY_WORDS, UNARY_WORDS, is_constant_number, is_text
from upvalues.ints import is_int

MOST_REGISTERS = 2000
MOST_UPVALUES = 2000
MOST_LINES = 400
MOST_MANY = 400
MOST_WANTED = 2000

# What stands behind the word of each instruction. A "first" needs to be no register of the code, since
# there may be none from it on.
FORMS = {
    "move": ("one", "one"),
    "load": ("one", "constant"),
    "upget": ("one", "upvalue"),
    "upset": ("upvalue", "one"),
    "get": ("one", "one", "one"),
    "set": ("one", "one", "one"),
    "self": ("one", "one", "text"),
    "table": ("one", "many", "many"),
    "append": ("one", "first", "many", "many", "truth"),
    "op": ("one", "binary word", "one", "one"),
    "unary": ("one", "unary word", "one"),
    "function": ("one", "function"),
    "jump": ("jump",),
    "if": ("one", "jump"),
    "unless": ("one", "jump"),
    "round": (),
    "forbegin": ("one", "jump"),
    "fornext": ("one", "jump"),
    "eachcall": ("one", "many"),
    "eachnext": ("one", "jump"),
    "call": ("one", "many", "truth", "wanted"),
    "tail": ("one", "many", "truth"),
    "return": ("first", "many", "truth"),
    "dots": ("first", "wanted"),
    "mark": ("one",),
    "close": ("one",),
}
LAST_WORDS = ("jump", "tail", "return")


def is_between(thing, least, most):
    """Whether a thing is an integer in a range."""
    return is_int(thing) and least <= thing <= most


def is_part(kind, thing):
    """Whether a thing is a part of this kind, of any size where the code itself is the bound."""
    match kind:
        case "one" | "first" | "upvalue" | "jump" | "function":
            return is_int(thing) and thing >= 0
        case "many":
            return is_between(thing, 0, MOST_MANY)
        case "wanted":
            return thing is None or is_between(thing, 0, MOST_WANTED)
        case "truth":
            return isinstance(thing, bool)
        case "text":
            return is_text(thing)
        case "binary word":
            return isinstance(thing, str) and thing in BINARY_WORDS
        case "unary word":
            return isinstance(thing, str) and thing in UNARY_WORDS
    return thing is None or isinstance(thing, bool) or is_constant_number(thing) or is_text(thing)


def has_form(part):
    """Whether a thing is an instruction, by its form alone."""
    if not isinstance(part, tuple) or len(part) == 0 or not isinstance(part[0], str):
        return False
    kinds = FORMS.get(part[0])
    if kinds is None or len(part) != len(kinds) + 1:
        return False
    return all([is_part(kind, thing) for kind, thing in zip(kinds, part[1:])])


def is_upvalue(thing):
    """Whether a thing tells where a new function finds an upvalue."""
    if not isinstance(thing, tuple) or len(thing) != 2 or not isinstance(thing[0], str):
        return False
    return thing[0] in ("reg", "up") and is_between(thing[1], 0, MOST_UPVALUES)


def has_good_head(code, is_main):
    """Whether all of a Code is good but for its instructions."""
    if not is_between(code.size, 0, MOST_REGISTERS) or not is_between(code.params, 0, code.size):
        return False
    if not isinstance(code.has_dots, bool) or not isinstance(code.upvalues, list):
        return False
    if not all([is_upvalue(thing) for thing in code.upvalues]):
        return False
    if is_main and (code.params != 0 or code.upvalues != [("up", 0)]):
        return False
    return has_good_rows(code)


def has_good_rows(code):
    """Whether there are instructions, and as many good lines and lives."""
    for rows in (code.instructions, code.lines, code.lives):
        if not isinstance(rows, list) or len(rows) != len(code.instructions) or len(rows) == 0:
            return False
    if not all([is_between(line, 0, MOST_LINES) for line in code.lines]):
        return False
    return all([is_between(live, 0, code.size) for live in code.lives])


def check_heads(codes):
    """Raises for what is no program of code, its instructions not looked at."""
    if not isinstance(codes, (list, tuple)) or len(codes) == 0:
        raise InvalidCode(None, None, "form")
    if not all([isinstance(code, Code) for code in codes]):
        raise InvalidCode(None, None, "form")
    for number, code in enumerate(codes):
        if not has_good_head(code, number == 0):
            raise InvalidCode(number, None, "form")


def check_instructions(codes, number):
    """Raises for the first instruction of a Code that is refused by itself; the heads are good."""
    code = codes[number]
    for at, part in enumerate(code.instructions):
        word = fault_alone(codes, code, part)
        if word is None and at == len(code.instructions) - 1 and part[0] not in LAST_WORDS:
            word = "end"
        if word is not None:
            raise InvalidCode(number, at, word)


def fault_alone(codes, code, part):
    """The word for what is wrong with an instruction by itself, or None."""
    if not has_form(part):
        return "form"
    if registers_needed(part) > code.size:
        return "register"
    for kind, thing in zip(FORMS[part[0]], part[1:]):
        if kind == "upvalue" and thing >= len(code.upvalues):
            return "upvalue"
        if kind == "jump" and thing >= len(code.instructions):
            return "jump"
        if kind == "function" and thing >= len(codes):
            return "function"
    if part[0] == "function":
        return capture_fault(code, codes[part[2]])
    return None


def capture_fault(code, inner):
    """The word for an upvalue of a new function that is not there, or None."""
    for word, at in inner.upvalues:
        if word == "reg" and at >= code.size:
            return "register"
        if word == "up" and at >= len(code.upvalues):
            return "upvalue"
    return None


def registers_needed(part):
    """How many registers a code must have for an instruction."""
    named = [0]
    for kind, thing in zip(FORMS[part[0]], part[1:]):
        if kind == "one":
            named.append(thing + 1)
        elif kind == "first":
            named.append(thing)
    match part[0]:
        case "self":
            named.append(part[1] + 2)
        case "append":
            named.append(part[2] + part[3])
        case "forbegin" | "fornext":
            named.append(part[1] + 4)
        case "eachcall":
            named.append(part[1] + 4 + part[2])
        case "eachnext":
            named.append(part[1] + 5)
        case "call":
            named.append(part[1] + max(part[2] + 1, part[4] or 0))
        case "tail":
            named.append(part[1] + part[2] + 1)
        case "return":
            named.append(part[1] + part[2])
        case "dots":
            named.append(part[1] + (part[2] or 0))
    return max(named)


def bit(at):
    """The set of one register."""
    return 1 << at


def bits(first, many):
    """The set of so many registers from one on."""
    return ((1 << many) - 1) << first


def registers_in(found):
    """The registers of a set, ascending."""
    return tuple([at for at in range(found.bit_length()) if found >> at & 1])


def reads(codes, part):
    """The registers that an instruction reads."""
    match part[0]:
        case "move" | "upset" | "self":
            return bit(part[2])
        case "get":
            return bit(part[2]) | bit(part[3])
        case "set":
            return bit(part[1]) | bit(part[2]) | bit(part[3])
        case "append":
            return bit(part[1]) | bits(part[2], part[3])
        case "op":
            return bit(part[3]) | bit(part[4])
        case "unary":
            return bit(part[3])
        case "function":
            return captured(codes[part[2]])
        case "if" | "unless" | "mark":
            return bit(part[1])
        case "forbegin" | "eachcall":
            return bits(part[1], 3)
        case "eachnext":
            return bit(part[1] + 4)
        case "call" | "tail":
            return bits(part[1], part[2] + 1)
        case "return":
            return bits(part[1], part[2])
    return 0


def captured(inner):
    """The registers that a new function captures."""
    found = 0
    for word, at in inner.upvalues:
        if word == "reg":
            found = found | bit(at)
    return found


def writes(part):
    """The registers that an instruction writes, whichever way it goes on."""
    match part[0]:
        case "move" | "load" | "upget" | "get" | "table" | "op" | "unary" | "function":
            return bit(part[1])
        case "self":
            return bits(part[1], 2)
        case "eachcall":
            return bits(part[1] + 4, part[2])
        case "call":
            return bits(part[1], part[4] or 0)
        case "dots":
            return bits(part[1], part[2] or 0)
    return 0
