"""What a whole program tells to those who write its code: numbers, lines, variables, jumps, by their paths."""

from upvalues.reading import read_program


class Outline:
    """A program that was read, and the registers that its variables get while it is written."""

    def __init__(self, program):
        reading = read_program(program)
        self.program = program
        self.functions = reading.functions
        self.numbers = {scope.path: number for number, scope in enumerate(reading.functions)}
        self.lines = {path: at + 1 for at, path in enumerate(reading.lines)}
        self.declared = {variable.where(): variable for variable in reading.declared}
        self.needs = reading.needs
        self.tails = {path: True for path in reading.tails}
        self.jumps = {path: target for path, target in reading.jumps}
        self.registers = {}

    def function_at(self, path):
        """The parameters of the function at a path, its block, and the path of this block."""
        if path == ():
            return (), self.program, path
        node = self.program
        for place in path:
            node = node[place]
        return node[1], node[3], path + (3,)

    def line_around(self, path):
        """The line of the statement in which a function stands; 0 for the main function."""
        while path != () and path not in self.lines:
            path = path[:-1]
        return self.lines.get(path, 0)

    def captured_from(self, scope):
        """Where a new function finds its upvalues in the frame that makes it."""
        if scope.around is None:
            return [("up", 0)]
        elder = scope.around.upvalues
        return [
            ("up", elder.index(variable)) if variable in elder else ("reg", self.registers[variable])
            for variable in scope.upvalues
        ]
