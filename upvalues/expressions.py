"""Code that gets values: each expression is written so that its value comes into the first free register."""

CONSTANTS = {"nil": None, "true": True, "false": False}
MULTIPLE = ("call", "method", "dots")
# So many items of a table wait before they are stored.
MOST_WAITING = 50


def push(draft, path, node):
    """Writes an expression; its value waits in one register more."""
    writer = WRITERS[node[0]]
    writer(draft, path, node)


def push_constant(draft, value):
    """Writes a value that stands in the code."""
    draft.emit("load", draft.height, value)
    draft.take(1)


def push_variable(draft, variable):
    """Writes the value that a variable has now."""
    number = draft.upvalue_number(variable)
    if number is None:
        draft.emit("move", draft.height, draft.outline.registers[variable])
    else:
        draft.emit("upget", draft.height, number)
    draft.take(1)


def push_literal(draft, path, node):
    """Writes nil, true, false, a number or a string."""
    push_constant(draft, node[1] if len(node) > 1 else CONSTANTS[node[0]])


def push_name(draft, path, node):
    """Writes a name: a variable, or a field of the variable _ENV."""
    word, variable = draft.outline.needs[path]
    push_variable(draft, variable)
    if word == "field":
        push_constant(draft, node[1])
        write_get(draft)


def push_index(draft, path, node):
    """Writes an index: the value, then the key."""
    push(draft, path + (1,), node[1])
    push(draft, path + (2,), node[2])
    write_get(draft)


def write_get(draft):
    """Writes the reading of the value below by the key above."""
    one = draft.release(2)
    draft.emit("get", one, one, one + 1)
    draft.take(1)


def push_function(draft, path, node):
    """Writes a function, whose own code is written by itself."""
    draft.emit("function", draft.height, draft.outline.numbers[path])
    draft.take(1)


def push_choice(draft, path, node):
    """Writes and or or: the second operand takes the register of the first one, where it is asked for."""
    push(draft, path + (1,), node[1])
    one = draft.release(1)
    at = draft.emit("unless" if node[0] == "and" else "if", one, None)
    push(draft, path + (2,), node[2])
    draft.land(at)


def push_paren(draft, path, node):
    """Writes an expression in parens, which gives one value as each does that is pushed."""
    push(draft, path + (1,), node[1])


def push_op(draft, path, node):
    """Writes an operator of two values."""
    push(draft, path + (2,), node[2])
    push(draft, path + (3,), node[3])
    one = draft.release(2)
    draft.emit("op", one, node[1], one, one + 1)
    draft.take(1)


def push_unary(draft, path, node):
    """Writes an operator of one value."""
    push(draft, path + (2,), node[2])
    one = draft.release(1)
    draft.emit("unary", one, node[1], one)
    draft.take(1)


def push_first(draft, path, node):
    """Writes a call, a method or dots for its first value alone."""
    write_multiple(draft, path, node, 1)
    draft.take(1)


def write_multiple(draft, path, node, wanted):
    """Writes what gives several values: so many into the registers from height on, or all of them open for None."""
    if node[0] == "dots":
        draft.emit("dots", draft.height, wanted)
    else:
        first, many, is_open = write_called(draft, path, node)
        draft.emit("call", first, many, is_open, wanted)


def write_called(draft, path, node):
    """Writes a function and its arguments; returns the first register, how many follow, whether more are open."""
    first = draft.height
    push(draft, path + (1,), node[1])
    if node[0] == "method":
        # The object waits in both registers while its field is read.
        draft.take(1)
        draft.emit("self", first, first, node[2])
    place = len(node) - 1
    is_open = push_open_list(draft, path + (place,), node[place])
    many = draft.height - first - 1
    draft.release(many + 1)
    return first, many, is_open


def push_open_list(draft, path, nodes):
    """Writes a list of which all values are wanted; tells whether the last ones are open."""
    for at, node in enumerate(nodes):
        if at == len(nodes) - 1 and node[0] in MULTIPLE:
            write_multiple(draft, path + (at,), node, None)
            return True
        push(draft, path + (at,), node)
    return False


def push_list(draft, path, nodes, wanted):
    """Writes a list of which so many values are wanted: others wait until it is whole, nil is put behind."""
    first = draft.height
    for at, node in enumerate(nodes):
        if at == len(nodes) - 1 and node[0] in MULTIPLE:
            missing = max(0, wanted - at)
            write_multiple(draft, path + (at,), node, missing)
            draft.take(missing)
        else:
            push(draft, path + (at,), node)
    while draft.height < first + wanted:
        push_constant(draft, None)
    draft.release(draft.height - first - wanted)


def push_table(draft, path, node):
    """Writes a table with its items; those without a key wait, and are stored in batches."""
    items = node[1]
    is_open = len(items) > 0 and items[-1][0] == "item" and items[-1][1][0] in MULTIPLE
    pairs = len([item for item in items if item[0] == "pair"])
    places = len(items) - pairs - (1 if is_open else 0)
    draft.emit("table", draft.height, places, pairs)
    table = draft.take(1)
    start = 1
    for at, item in enumerate(items):
        if draft.height == table + 1 + MOST_WAITING:
            write_batch(draft, table, start, False)
            start = start + MOST_WAITING
        if item[0] == "pair":
            push_pair(draft, path + (1, at), item, table)
        elif is_open and at == len(items) - 1:
            write_multiple(draft, path + (1, at, 1), item[1], None)
        else:
            push(draft, path + (1, at, 1), item[1])
    if is_open or draft.height > table + 1:
        write_batch(draft, table, start, is_open)


def push_pair(draft, path, item, table):
    """Writes an item with a key, which is stored at once; no value of it waits on."""
    push(draft, path + (1,), item[1])
    push(draft, path + (2,), item[2])
    key = draft.release(2)
    draft.emit("set", table, key, key + 1)


def write_batch(draft, table, start, is_open):
    """Writes the storing of the items that wait above a table."""
    many = draft.height - table - 1
    draft.release(many)
    draft.emit("append", table, table + 1, many, start, is_open)


WRITERS = {
    "nil": push_literal,
    "true": push_literal,
    "false": push_literal,
    "number": push_literal,
    "string": push_literal,
    "dots": push_first,
    "name": push_name,
    "function": push_function,
    "index": push_index,
    "call": push_first,
    "method": push_first,
    "and": push_choice,
    "or": push_choice,
    "paren": push_paren,
    "op": push_op,
    "unary": push_unary,
    "table": push_table,
}
