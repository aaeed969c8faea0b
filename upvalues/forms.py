"""The form of programs: which parts their statements, expressions and items have, and bounds."""

from upvalues.errors import InvalidProgram
from upvalues.ints import fits, is_int
from upvalues.numbers import Float

MOST_STATEMENTS = 400
MOST_DEEP = 30

LETTERS = "ABCDEFGHIJKLMNOPQRSTUVWXYZabcdefghijklmnopqrstuvwxyz"
FIGURES = "0123456789"
BINARY_WORDS = (
    "add", "sub", "mul", "div", "floor", "mod", "band", "bor", "bxor", "shl", "shr",
    "concat", "eq", "ne", "lt", "le", "gt", "ge",
)
UNARY_WORDS = ("neg", "not", "len", "bnot")

# What stands behind the word, for each position of a node and each word that may stand there.
FORMS = {
    ("statement", "local"): ("names", "marks", "list"),
    ("statement", "set"): ("targets", "filled list"),
    ("statement", "do"): ("block",),
    ("statement", "while"): ("one", "block"),
    ("statement", "repeat"): ("block", "one"),
    ("statement", "if"): ("arms", "else"),
    ("statement", "for"): ("name", "one", "one", "step", "block"),
    ("statement", "forin"): ("names", "filled list", "block"),
    ("statement", "localfun"): ("name", "function"),
    ("statement", "call"): ("called",),
    ("statement", "return"): ("list",),
    ("statement", "break"): (),
    ("statement", "goto"): ("name",),
    ("statement", "label"): ("name",),
    ("target", "name"): ("name",),
    ("target", "index"): ("one", "one"),
    ("function", "function"): ("params", "truth", "block"),
    ("called", "call"): ("one", "list"),
    ("called", "method"): ("one", "name", "list"),
    ("item", "item"): ("one",),
    ("item", "pair"): ("one", "one"),
    ("expression", "nil"): (),
    ("expression", "true"): (),
    ("expression", "false"): (),
    ("expression", "number"): ("number",),
    ("expression", "string"): ("text",),
    ("expression", "dots"): (),
    ("expression", "name"): ("name",),
    ("expression", "function"): ("params", "truth", "block"),
    ("expression", "index"): ("one", "one"),
    ("expression", "call"): ("one", "list"),
    ("expression", "method"): ("one", "name", "list"),
    ("expression", "and"): ("one", "one"),
    ("expression", "or"): ("one", "one"),
    ("expression", "paren"): ("one",),
    ("expression", "op"): ("binary word", "one", "one"),
    ("expression", "unary"): ("unary word", "one"),
    ("expression", "table"): ("items",),
}

# The position of what stands there, for parts that are a node or a block of their own.
SINGLE_PARTS = {
    "one": "expression",
    "step": "expression",
    "function": "function",
    "called": "called",
    "block": "block",
    "else": "block",
}
# The position of what stands in it, for parts that are a tuple of nodes.
LISTED_PARTS = {
    "list": "expression",
    "filled list": "expression",
    "targets": "target",
    "items": "item",
}
# The least and the greatest length of parts that are tuples.
LENGTHS = {
    "names": (1, 50),
    "params": (0, 50),
    "list": (0, 50),
    "filled list": (1, 50),
    "targets": (1, 50),
    "arms": (1, 50),
    "items": (0, 300),
}


def is_name(thing):
    """Whether a thing is a name."""
    if not isinstance(thing, str) or not 1 <= len(thing) <= 20 or thing[0] in FIGURES:
        return False
    return all([sign in LETTERS or sign in FIGURES or sign == "_" for sign in thing])


def is_text(thing):
    """Whether a thing is a string that a program may write."""
    if not isinstance(thing, str) or len(thing) > 200:
        return False
    return all([1 <= ord(sign) <= 126 for sign in thing])


def is_constant_number(thing):
    """Whether a thing is a number that a program may write."""
    return isinstance(thing, Float) or (is_int(thing) and fits(thing))


def is_mark(thing):
    """Whether a thing is a mark of a variable."""
    return thing is None or (isinstance(thing, str) and thing in ("const", "close"))


def is_arm(thing):
    """Whether a thing is a question with a block, whatever the question is."""
    return isinstance(thing, tuple) and len(thing) == 2 and isinstance(thing[1], tuple)


def is_part(kind, thing):
    """Whether a thing is a part of this kind; nodes that stand there are not looked at."""
    match kind:
        case "one" | "step" | "function" | "called":
            return True
        case "name":
            return is_name(thing)
        case "number":
            return is_constant_number(thing)
        case "text":
            return is_text(thing)
        case "truth":
            return isinstance(thing, bool)
        case "binary word":
            return isinstance(thing, str) and thing in BINARY_WORDS
        case "unary word":
            return isinstance(thing, str) and thing in UNARY_WORDS
        case "else":
            return thing is None or isinstance(thing, tuple)
    return isinstance(thing, tuple) and is_tuple_part(kind, thing)


def is_tuple_part(kind, things):
    """Whether a tuple is a part of this kind; it may be longer than its bound."""
    if kind in LENGTHS and len(things) < LENGTHS[kind][0]:
        return False
    if kind in ("names", "params"):
        return all([is_name(thing) for thing in things])
    if kind == "marks":
        return all([is_mark(thing) for thing in things])
    if kind == "arms":
        return all([is_arm(thing) for thing in things])
    return True


def has_form(position, node):
    """Whether a node has the form for its position, its own parts not looked at."""
    if not isinstance(node, tuple) or len(node) == 0 or not isinstance(node[0], str):
        return False
    kinds = FORMS.get((position, node[0]))
    if kinds is None or len(node) != len(kinds) + 1:
        return False
    if not all([is_part(kind, thing) for kind, thing in zip(kinds, node[1:])]):
        return False
    return node[0] != "local" or len(node[1]) == len(node[2])


def is_too_long(position, node):
    """Whether a tuple in a node of good form is longer than its bound."""
    kinds = FORMS[(position, node[0])]
    return any([kind in LENGTHS and len(thing) > LENGTHS[kind][1] for kind, thing in zip(kinds, node[1:])])


def parts_of(position, node):
    """A node's parts that are nodes or blocks, in reading order: steps from the node to it, itself, its position."""
    kinds = FORMS[(position, node[0])]
    found = []
    for place, kind in enumerate(kinds):
        found.extend(parts_at(place + 1, kind, node[place + 1]))
    return found


def parts_at(place, kind, thing):
    """The parts that stand at one place of a node."""
    if thing is None and kind in ("step", "else"):
        return []
    if kind in SINGLE_PARTS:
        return [((place,), thing, SINGLE_PARTS[kind])]
    if kind in LISTED_PARTS:
        return [((place, at), part, LISTED_PARTS[kind]) for at, part in enumerate(thing)]
    found = []
    if kind == "arms":
        for at, arm in enumerate(thing):
            found.append(((place, at, 0), arm[0], "expression"))
            found.append(((place, at, 1), arm[1], "block"))
    return found


def block_parts(block):
    """The parts of a block; none behind those that a program can have at most."""
    return [((at,), part, "statement") for at, part in enumerate(block[:MOST_STATEMENTS + 1])]


def check_form(program):
    """Raises for the first node in reading order that has not its form, or goes beyond a bound."""
    if not isinstance(program, tuple):
        raise InvalidProgram((), "form")
    many = 0
    # What is still to be read, the next one last, so that no depth is too great.
    waiting = [((), program, "block", 1)]
    while waiting:
        path, node, position, depth = waiting.pop()
        if position == "block":
            parts = block_parts(node)
            inner = depth
        else:
            many += 1 if position == "statement" else 0
            check_node(path, node, position, depth, many)
            parts = parts_of(position, node)
            inner = depth + 1
        for steps, part, kind in reversed(parts):
            waiting.append((path + steps, part, kind, inner))


def check_node(path, node, position, depth, many):
    """Raises for a node that has not its form, or goes beyond a bound."""
    if not has_form(position, node):
        raise InvalidProgram(path, "form")
    if depth > MOST_DEEP or many > MOST_STATEMENTS or is_too_long(position, node):
        raise InvalidProgram(path, "bounds")
