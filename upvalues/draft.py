"""The code of one function while it is written: instructions, registers in use, scopes that are open."""

from upvalues.code import Code


class Level:
    """A block that is being written, or the hidden values of a forin, and its first register."""

    def __init__(self, path, base, is_hidden):
        self.path = path
        self.base = base
        self.is_hidden = is_hidden
        self.variables = []


class Loop:
    """A loop that is being written: how many levels stand around it, and the places of its breaks."""

    def __init__(self, depth):
        self.depth = depth
        self.breaks = []


class Draft:
    """A function that is being written. The registers below height hold variables and values that wait."""

    def __init__(self, outline, scope):
        self.outline = outline
        self.scope = scope
        self.line = outline.line_around(scope.path)
        self.height = 0
        self.size = 0
        self.instructions = []
        self.lines = []
        self.lives = []
        self.levels = []
        self.loops = []
        # For each label that was met: its place, and the height there.
        self.labels = {}
        # For each label that was not met yet: the places of the jumps to it.
        self.gotos = {}

    def made_code(self, params):
        """The code of the function, when all of it is written."""
        upvalues = self.outline.captured_from(self.scope)
        return Code(params, self.scope.has_dots, self.size, upvalues, self.instructions, self.lines, self.lives)

    def emit(self, *instruction):
        """Writes an instruction, during which the registers below height are live; returns its place."""
        self.instructions.append(instruction)
        self.lines.append(self.line)
        self.lives.append(self.height)
        return len(self.instructions) - 1

    def next_place(self):
        """The place of the next instruction."""
        return len(self.instructions)

    def land(self, at):
        """Lets the jump at a place go to the next instruction."""
        self.instructions[at] = self.instructions[at][:-1] + (len(self.instructions),)

    def take(self, many):
        """Puts so many registers to use; returns the first one."""
        first = self.height
        self.height = first + many
        self.size = max(self.size, self.height)
        return first

    def release(self, many):
        """Uses up the values of the last registers; returns the first one."""
        self.height = self.height - many
        return self.height

    def upvalue_number(self, variable):
        """The number of an upvalue of this function, or None for a variable of its own."""
        if variable in self.scope.upvalues:
            return self.scope.upvalues.index(variable)
        return None

    def begin_level(self, path, is_hidden=False):
        """Goes into a block, or lets the hidden values of a forin begin."""
        self.levels.append(Level(path, self.height, is_hidden))

    def end_level(self):
        """Ends what the innermost level holds, and leaves it."""
        level = self.levels[-1]
        self.end_from(level, level.base)
        self.height = level.base
        self.levels.pop()

    def begin_variables(self, path, many, first):
        """Lets the variables of a statement or a function begin, in the registers from first on."""
        for place in range(many):
            variable = self.outline.declared[(path, place)]
            self.outline.registers[variable] = first + place
            self.levels[-1].variables.append(variable)

    def is_to_end(self, level, floor):
        """Whether something has to be done when a level ends from a register on."""
        return level.is_hidden or any([
            (variable.is_captured or variable.mark == "close") and self.outline.registers[variable] >= floor
            for variable in level.variables
        ])

    def end_from(self, level, floor):
        """Ends the variables of a level from a register on; the height stays as it was."""
        if self.is_to_end(level, floor):
            height = self.height
            self.height = floor
            self.emit("close", floor)
            self.height = height

    def leave_to(self, depth):
        """Ends the levels that stand within so many ones, each whole, the innermost first."""
        for level in reversed(self.levels[depth:]):
            self.end_from(level, level.base)

    def begin_loop(self):
        """Goes into a loop."""
        self.loops.append(Loop(len(self.levels)))

    def end_loop(self):
        """Leaves a loop; its breaks go on here."""
        loop = self.loops.pop()
        for at in loop.breaks:
            self.land(at)

    def break_loop(self):
        """Leaves the innermost loop."""
        loop = self.loops[-1]
        self.leave_to(loop.depth)
        loop.breaks.append(self.emit("jump", None))

    def set_label(self, path):
        """Lets a label stand here."""
        self.labels[path] = (self.next_place(), self.height)
        for at in self.gotos.get(path, []):
            self.land(at)

    def go_to(self, label):
        """Goes to a label, which may have been met or not."""
        depth = [level.path for level in self.levels].index(label[:-1])
        self.leave_to(depth + 1)
        if label in self.labels:
            target, floor = self.labels[label]
            self.end_from(self.levels[depth], floor)
            self.emit("round")
            self.emit("jump", target)
        else:
            self.emit("round")
            self.gotos.setdefault(label, []).append(self.emit("jump", None))
