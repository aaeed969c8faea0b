"""The trees that the walker goes through: programs in which each name, line and label is found already."""

from upvalues.outline import Outline
from upvalues.tree_expressions import EXPRESSIONS, MULTIPLE
from upvalues.tree_statements import STATEMENTS
from upvalues.walk_expressions import find_method, take_all, walk_all_dots, walk_call


class Body:
    """What functions are made of."""

    def __init__(self, params, has_dots, line):
        self.params = params
        self.has_dots = has_dots
        # The line in which its block begins and ends.
        self.line = line
        self.upvalues = []
        self.block = None


class Block:
    """A block: its statements, the question that a repeat asks at its end, and the line in which it ends."""

    def __init__(self, number, line):
        self.number = number
        self.line = line
        self.statements = []
        self.question = None


class Label:
    """Where a goto goes on: behind a place of a block, with so many variables."""

    def __init__(self, number, at):
        self.number = number
        self.at = at
        self.height = 0


class TreeMaker:
    """A program while its tree is made."""

    def __init__(self, program):
        self.outline = Outline(program)
        self.scope = None
        # How many variables are in scope, with those that a forin hides.
        self.height = 0
        self.line = 0
        self.many_blocks = 0
        self.labels = {}

    def body_of(self, scope):
        """The body of a function; that around it is being made."""
        kept = (self.scope, self.height, self.line)
        params, block, path = self.outline.function_at(scope.path)
        self.scope = scope
        self.height = 0
        self.line = self.outline.line_around(scope.path)
        found = Body(len(params), scope.has_dots, self.line)
        found.upvalues = self.outline.captured_from(scope)
        self.declare(scope.path, len(params))
        found.block = self.block_of(path, block)
        self.scope, self.height, self.line = kept
        return found

    def declare(self, path, many):
        """Lets the variables of a statement or a function be in scope."""
        for place in range(many):
            self.outline.registers[self.outline.declared[(path, place)]] = self.height
            self.height += 1

    def place_of(self, variable):
        """Where a frame of the function finds a variable."""
        if variable in self.scope.upvalues:
            return "up", self.scope.upvalues.index(variable)
        return "reg", self.outline.registers[variable]

    def block_of(self, path, rows, question=None):
        """The tree of a block, whose variables end with it."""
        begun = self.height
        found = Block(self.many_blocks, self.line)
        self.many_blocks += 1
        for at, row in enumerate(rows):
            if row[0] == "label":
                self.labels[path + (at,)] = Label(found.number, at)
        for at, row in enumerate(rows):
            found.statements.append(self.statement(path + (at,), row))
        if question is not None:
            # It stands behind the block in the same repeat.
            found.question = self.one(path[:-1] + (2,), question)
        self.height = begun
        return found

    def statement(self, path, node):
        """The tree of a statement."""
        line = self.line
        self.line = self.outline.lines[path]
        maker = STATEMENTS[node[0]]
        found = maker(self, path, node)
        self.line = line
        return found

    def one(self, path, node):
        """The tree of an expression that gives one value."""
        maker = EXPRESSIONS[node[0]]
        return maker(self, path, node)

    def multiple(self, path, node, taker):
        """The tree of an expression that gives several values; a taker does with them what is to be done."""
        if node[0] == "dots":
            return (walk_all_dots,)
        return walk_call, taker, self.call_parts(path, node)

    def call_parts(self, path, node):
        """The trees of a call's function and its arguments."""
        called = self.one(path + (1,), node[1])
        if node[0] == "call":
            return (called,) + self.list_of(path + (2,), node[2])
        return (called, (find_method, node[2])) + self.list_of(path + (3,), node[3])

    def list_of(self, path, nodes):
        """The trees of a list, of which the last one gives all its values."""
        found = []
        for at, node in enumerate(nodes):
            if at == len(nodes) - 1 and node[0] in MULTIPLE:
                found.append(self.multiple(path + (at,), node, take_all))
            else:
                found.append(self.one(path + (at,), node))
        return tuple(found)


def tree_of(program):
    """The body of the main function; raises InvalidProgram for what is no program."""
    maker = TreeMaker(program)
    return maker.body_of(maker.outline.functions[0])
