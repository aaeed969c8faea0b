"""Programs compiled: each function becomes code for the machine of registers."""

from upvalues.draft import Draft
from upvalues.expressions import (
    push,
    push_constant,
    push_list,
    push_open_list,
    push_variable,
    write_called,
    write_multiple,
)
from upvalues.outline import Outline

# A forin hides its function, state, control value, and the value to be closed.
HIDDEN = 4


def compile_program(program):
    """A list with the Code of each function, in reading order; raises InvalidProgram for what is no program."""
    outline = Outline(program)
    return [function_code(outline, scope) for scope in outline.functions]


def function_code(outline, scope):
    """The Code of one function; those around it are written already."""
    draft = Draft(outline, scope)
    params, block, path = outline.function_at(scope.path)
    draft.begin_level(path)
    draft.begin_variables(scope.path, len(params), draft.take(len(params)))
    write_statements(draft, path, block)
    draft.release(draft.height)
    # What is pending is closed by the return itself.
    draft.emit("return", 0, 0, False)
    return draft.made_code(len(params))


def write_block(draft, path, block):
    """Writes a block whose variables end with it."""
    draft.begin_level(path)
    write_statements(draft, path, block)
    draft.end_level()


def write_statements(draft, path, block):
    """Writes the statements of a block, and leaves its variables in scope."""
    line = draft.line
    for at, statement in enumerate(block):
        draft.line = draft.outline.lines[path + (at,)]
        writer = WRITERS[statement[0]]
        writer(draft, path + (at,), statement)
    draft.line = line


def write_local(draft, path, node):
    """Writes a local; a value to be closed is pending from its beginning on."""
    first = draft.height
    push_list(draft, path + (3,), node[3], len(node[1]))
    draft.begin_variables(path, len(node[1]), first)
    for place, mark in enumerate(node[2]):
        if mark == "close":
            draft.emit("mark", first + place)


def write_localfun(draft, path, node):
    """Writes a localfun; its variable begins ahead of the function, which may capture it."""
    push_constant(draft, None)
    draft.begin_variables(path, 1, draft.height - 1)
    draft.emit("function", draft.height - 1, draft.outline.numbers[path + (2,)])


def write_set(draft, path, node):
    """Writes a set: the parts of its targets, its values, then the stores from the last one to the first one."""
    targets = node[1]
    first = draft.height
    parts = []
    for at, target in enumerate(targets):
        parts.append(draft.height)
        push_target(draft, path + (1, at), target)
    values = draft.height
    push_list(draft, path + (2,), node[2], len(targets))
    # All parts and values are live until all are stored.
    for at in reversed(range(len(targets))):
        write_store(draft, path + (1, at), targets[at], parts[at], values + at)
    draft.release(draft.height - first)


def push_target(draft, path, target):
    """Writes the value and the key of a target; a variable has none."""
    if target[0] == "index":
        push(draft, path + (1,), target[1])
        push(draft, path + (2,), target[2])
        return
    word, variable = draft.outline.needs[path]
    if word == "field":
        push_variable(draft, variable)
        push_constant(draft, target[1])


def write_store(draft, path, target, part, value):
    """Writes the store of one value."""
    if target[0] == "index":
        draft.emit("set", part, part + 1, value)
        return
    word, variable = draft.outline.needs[path]
    number = draft.upvalue_number(variable)
    if word == "field":
        draft.emit("set", part, part + 1, value)
    elif number is None:
        draft.emit("move", draft.outline.registers[variable], value)
    else:
        draft.emit("upset", number, value)


def write_do(draft, path, node):
    """Writes a do."""
    write_block(draft, path + (1,), node[1])


def write_question(draft, path, node):
    """Writes a question; returns the place of the jump for an answer that is not true."""
    push(draft, path, node)
    return draft.emit("unless", draft.release(1), None)


def write_while(draft, path, node):
    """Writes a while, which asks ahead of each round."""
    begun = draft.next_place()
    draft.begin_loop()
    out = write_question(draft, path + (1,), node[1])
    draft.emit("round")
    write_block(draft, path + (2,), node[2])
    draft.emit("jump", begun)
    draft.land(out)
    draft.end_loop()


def write_repeat(draft, path, node):
    """Writes a repeat, which asks behind each round; its variables end behind the question."""
    begun = draft.emit("round")
    draft.begin_loop()
    draft.begin_level(path + (1,))
    write_statements(draft, path + (1,), node[1])
    push(draft, path + (2,), node[2])
    answer = draft.release(1)
    draft.end_level()
    # Whether the answer is true needs no value to be held while closers run.
    draft.emit("unless", answer, begun)
    draft.end_loop()


def write_if(draft, path, node):
    """Writes an if: its arms, and what is done if none of them is."""
    ends = []
    for at, arm in enumerate(node[1]):
        over = write_question(draft, path + (1, at, 0), arm[0])
        write_block(draft, path + (1, at, 1), arm[1])
        if at < len(node[1]) - 1 or node[2] is not None:
            ends.append(draft.emit("jump", None))
        draft.land(over)
    if node[2] is not None:
        write_block(draft, path + (2,), node[2])
    for at in ends:
        draft.land(at)


def write_for(draft, path, node):
    """Writes a for, whose values lie in hidden registers below its variable."""
    first = draft.height
    push(draft, path + (2,), node[2])
    push(draft, path + (3,), node[3])
    if node[4] is None:
        push_constant(draft, 1)
    else:
        push(draft, path + (4,), node[4])
    draft.begin_loop()
    out = draft.emit("forbegin", first, None)
    begun = draft.emit("round")
    write_round(draft, path, 1, path + (5,), node[5])
    draft.emit("fornext", first, begun)
    draft.land(out)
    draft.end_loop()
    draft.release(draft.height - first)


def write_round(draft, path, many, block_path, block):
    """Writes the block of a for or a forin, with the variables that it begins in each round."""
    draft.begin_level(block_path)
    draft.begin_variables(path, many, draft.take(many))
    write_statements(draft, block_path, block)
    draft.end_level()


def write_forin(draft, path, node):
    """Writes a forin, whose hidden values lie below its variables."""
    first = draft.height
    push_list(draft, path + (2,), node[2], HIDDEN)
    draft.emit("mark", first + HIDDEN - 1)
    draft.release(HIDDEN)
    draft.begin_loop()
    draft.begin_level(path, True)
    draft.take(HIDDEN)
    asking = draft.emit("jump", None)
    begun = draft.emit("round")
    write_round(draft, path, len(node[1]), path + (3,), node[3])
    draft.land(asking)
    draft.emit("eachcall", first, len(node[1]))
    draft.emit("eachnext", first, begun)
    draft.end_level()
    draft.end_loop()


def write_call(draft, path, node):
    """Writes a call whose results are dropped."""
    write_multiple(draft, path + (1,), node[1], 0)


def write_return(draft, path, node):
    """Writes a return, or a tail call."""
    if path in draft.outline.tails:
        first, many, is_open = write_called(draft, path + (1, 0), node[1][0])
        draft.emit("tail", first, many, is_open)
        return
    first = draft.height
    is_open = push_open_list(draft, path + (1,), node[1])
    many = draft.height - first
    draft.release(many)
    draft.emit("return", first, many, is_open)


def write_break(draft, path, node):
    """Writes a break."""
    draft.break_loop()


def write_goto(draft, path, node):
    """Writes a goto."""
    draft.go_to(draft.outline.jumps[path])


def write_label(draft, path, node):
    """Writes a label."""
    draft.set_label(path)


WRITERS = {
    "local": write_local,
    "set": write_set,
    "do": write_do,
    "while": write_while,
    "repeat": write_repeat,
    "if": write_if,
    "for": write_for,
    "forin": write_forin,
    "localfun": write_localfun,
    "call": write_call,
    "return": write_return,
    "break": write_break,
    "goto": write_goto,
    "label": write_label,
}
