"""Programs read from their beginning to their end: lines, variables, names, jumps, tail calls.

Everything is found in one pass, so that the first rule that is met broken is the one told.
"""

from upvalues.errors import InvalidProgram
from upvalues.forms import check_form, parts_of

MOST_VARIABLES = 60
MOST_UPVALUES = 40


class Variable:
    """A variable: the path and place of its declaration, None for that of the main function."""

    def __init__(self, path, place, name, mark):
        self.path = path
        self.place = place
        self.name = name
        self.mark = mark
        self.is_captured = False

    def where(self):
        """Where the variable is declared, as it is told."""
        return None if self.path is None else (self.path, self.place)


class OpenBlock:
    """A block that is being read, and the place of the statement in it that is."""

    def __init__(self, path, block, is_repeated):
        self.path = path
        self.block = block
        self.is_repeated = is_repeated
        self.at = 0


class Scope:
    """A function: its variables in scope while it is read, and the upvalues that it has."""

    def __init__(self, path, around, has_dots, upvalues):
        self.path = path
        self.around = around
        self.has_dots = has_dots
        self.upvalues = upvalues
        self.variables = []
        self.blocks = []
        self.loops = []
        self.forins = 0

    def variable_named(self, name):
        """The variable of this name that came into scope last, or None."""
        for variable in reversed(self.variables):
            if variable.name == name:
                return variable
        return None

    def capture(self, variable, path):
        """Lets the function have an upvalue, if it has it not yet."""
        if variable in self.upvalues:
            return
        if len(self.upvalues) == MOST_UPVALUES:
            raise InvalidProgram(path, "bounds")
        self.upvalues.append(variable)

    def may_call_last(self):
        """Whether a call that is returned here would be a tail call."""
        return self.forins == 0 and not any([variable.mark == "close" for variable in self.variables])


class Reading:
    """What was found in a program so far."""

    def __init__(self):
        self.globals_variable = Variable(None, 0, "_ENV", None)
        self.scope = Scope((), None, True, [self.globals_variable])
        self.functions = [self.scope]
        self.lines = []
        self.tails = []
        self.declared = []
        self.uses = []
        self.needs = {}
        self.jumps = []

    def enter_function(self, path, has_dots):
        """Goes into a function that stands here."""
        self.scope = Scope(path, self.scope, has_dots, [])
        self.functions.append(self.scope)

    def leave_function(self):
        """Goes back to the function around."""
        self.scope = self.scope.around

    def declare(self, path, place, name, mark):
        """Brings a variable into scope."""
        if len(self.scope.variables) == MOST_VARIABLES:
            raise InvalidProgram(path, "bounds")
        variable = Variable(path, place, name, mark)
        self.scope.variables.append(variable)
        self.declared.append(variable)

    def scopes(self):
        """The functions around here, the innermost one first."""
        found = [self.scope]
        while found[-1].around is not None:
            found.append(found[-1].around)
        return found

    def look_up(self, name):
        """The variable that a name is, or None, and how many functions' borders lie between."""
        scopes = self.scopes()
        for borders, scope in enumerate(scopes):
            variable = scope.variable_named(name)
            if variable is not None:
                return variable, borders
        if name == "_ENV":
            return self.globals_variable, len(scopes) - 1
        return None, 0

    def use(self, path, name):
        """Notes a name, captures what it needs, and returns the variable that it is, or None."""
        variable, borders = self.look_up(name)
        needed = variable
        if variable is None:
            word = "field"
            needed, borders = self.look_up("_ENV")
        else:
            word = "local" if borders == 0 and variable.path is not None else "upvalue"
        self.uses.append((path, word, needed.where(), borders))
        self.needs[path] = (word, needed)
        for scope in self.scopes()[:borders]:
            scope.capture(needed, path)
            needed.is_captured = True
        return variable


def read_program(program):
    """Reads a whole program, or raises for what it breaks."""
    check_form(program)
    reading = Reading()
    read_block(reading, (), program)
    return reading


def read_block(reading, path, block):
    """Reads a block whose variables end with it."""
    begun = len(reading.scope.variables)
    read_statements(reading, path, block, False)
    del reading.scope.variables[begun:]


def read_statements(reading, path, block, is_repeated):
    """Reads the statements of a block, and leaves its variables in scope."""
    opened = OpenBlock(path, block, is_repeated)
    reading.scope.blocks.append(opened)
    for at, statement in enumerate(block):
        opened.at = at
        read_statement(reading, path + (at,), statement)
    reading.scope.blocks.pop()


def read_parts(reading, path, parts):
    """Reads some parts of a node, each whole."""
    for steps, part, position in parts:
        if position == "block":
            read_block(reading, path + steps, part)
        else:
            read_expression(reading, path + steps, part, position)


def read_expression(reading, path, node, position):
    """Reads an expression, a target or an item."""
    word = node[0]
    if word == "name":
        variable = reading.use(path, node[1])
        if position == "target" and variable is not None and variable.mark is not None:
            raise InvalidProgram(path, "const")
    elif word == "function":
        read_function(reading, path, node)
    elif word == "dots" and not reading.scope.has_dots:
        raise InvalidProgram(path, "dots")
    else:
        read_parts(reading, path, parts_of(position, node))


def read_function(reading, path, node):
    """Reads a function with its parameters and its block."""
    reading.enter_function(path, node[2])
    for place, name in enumerate(node[1]):
        reading.declare(path, place, name, None)
    read_block(reading, path + (3,), node[3])
    reading.leave_function()


def read_plain(reading, path, node):
    """Reads a statement that is no more than its parts."""
    read_parts(reading, path, parts_of("statement", node))


def read_local(reading, path, node):
    """Reads a local: its values ahead of its names."""
    marks = node[2]
    if marks.count("close") > 1:
        raise InvalidProgram(path, "close")
    read_plain(reading, path, node)
    for place, name in enumerate(node[1]):
        reading.declare(path, place, name, marks[place])


def read_localfun(reading, path, node):
    """Reads a localfun: its name ahead of its function."""
    reading.declare(path, 0, node[1], None)
    read_plain(reading, path, node)


def read_while(reading, path, node):
    """Reads a while."""
    reading.scope.loops.append(path)
    read_plain(reading, path, node)
    reading.scope.loops.pop()


def read_repeat(reading, path, node):
    """Reads a repeat, whose question sees the variables of its block."""
    scope = reading.scope
    begun = len(scope.variables)
    scope.loops.append(path)
    read_statements(reading, path + (1,), node[1], True)
    scope.loops.pop()
    read_parts(reading, path, parts_of("statement", node)[1:])
    del scope.variables[begun:]


def read_for(reading, path, node):
    """Reads a for: its values ahead of its name."""
    read_counted(reading, path, node, (node[1],))


def read_forin(reading, path, node):
    """Reads a forin: its values ahead of its names."""
    read_counted(reading, path, node, node[1])


def read_counted(reading, path, node, names):
    """Reads a for or a forin, with the names that it declares for its block."""
    scope = reading.scope
    begun = len(scope.variables)
    parts = parts_of("statement", node)
    read_parts(reading, path, parts[:-1])
    for place, name in enumerate(names):
        reading.declare(path, place, name, None)
    hidden = 1 if node[0] == "forin" else 0
    scope.loops.append(path)
    scope.forins += hidden
    read_parts(reading, path, parts[-1:])
    scope.forins -= hidden
    scope.loops.pop()
    del scope.variables[begun:]


def read_return(reading, path, node):
    """Reads a return, which ends its block, and may be a tail call."""
    scope = reading.scope
    opened = scope.blocks[-1]
    if opened.at != len(opened.block) - 1:
        raise InvalidProgram(path, "return")
    if len(node[1]) == 1 and node[1][0][0] in ("call", "method") and scope.may_call_last():
        reading.tails.append(path)
    read_plain(reading, path, node)


def read_break(reading, path, node):
    """Reads a break, which goes to the innermost loop around it."""
    if len(reading.scope.loops) == 0:
        raise InvalidProgram(path, "break")
    reading.jumps.append((path, reading.scope.loops[-1]))


def labels_named(block, name):
    """The places of the labels of this name in a block."""
    return [at for at, statement in enumerate(block) if statement[0] == "label" and statement[1] == name]


def read_goto(reading, path, node):
    """Reads a goto, which goes to the label in the innermost block around it that has one."""
    for opened in reversed(reading.scope.blocks):
        found = labels_named(opened.block, node[1])
        if len(found) > 0:
            check_way(path, opened, found[0])
            reading.jumps.append((path, opened.path + (found[0],)))
            return
    raise InvalidProgram(path, "goto")


def check_way(path, opened, label):
    """Raises if a goto goes ahead over a variable into its scope."""
    skipped = opened.block[opened.at:label]
    behind = opened.block[label:]
    if not any([statement[0] in ("local", "localfun") for statement in skipped]):
        return
    if opened.is_repeated or not all([statement[0] == "label" for statement in behind]):
        raise InvalidProgram(path, "scope")


def read_label(reading, path, node):
    """Reads a label, whose name no elder one has that can be seen here."""
    for opened in reading.scope.blocks:
        if len(labels_named(opened.block[:opened.at], node[1])) > 0:
            raise InvalidProgram(path, "label")


READERS = {
    "local": read_local,
    "set": read_plain,
    "do": read_plain,
    "while": read_while,
    "repeat": read_repeat,
    "if": read_plain,
    "for": read_for,
    "forin": read_forin,
    "localfun": read_localfun,
    "call": read_plain,
    "return": read_return,
    "break": read_break,
    "goto": read_goto,
    "label": read_label,
}


def read_statement(reading, path, node):
    """Reads one statement; its line is behind those of all read so far."""
    reading.lines.append(path)
    reader = READERS[node[0]]
    reader(reading, path, node)
