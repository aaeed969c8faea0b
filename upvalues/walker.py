"""The walker: one of the two engines, which goes through a program part by part."""

from upvalues.frames import ProgramFrame
from upvalues.trees import tree_of
from upvalues.walk_expressions import take_shaped
from upvalues.walk_statements import begin_function, begin_variables


class Walker:
    """The engine for a program."""

    def __init__(self, program):
        self.main = tree_of(program)

    def frame(self, closure, given):
        """A frame for the call of a function."""
        return WalkFrame(closure, given)


class WalkFrame(ProgramFrame):
    """A call of a function of a program."""

    def __init__(self, closure, given):
        body = closure.body
        ProgramFrame.__init__(self, closure, given[body.params:] if body.has_dots else [])
        self.line = body.line
        # The variables in scope, with those that a forin hides, and the scopes that were begun.
        self.variables = []
        self.entered = []
        # The values that wait, and the results of the last call.
        self.waiting = []
        self.answer = []
        # What is to be done, the next one last; each one a tuple whose first item is the act.
        self.todo = []
        begin_function(self, body)
        params = given[:body.params]
        begin_variables(self, params + [None] * (body.params - len(params)))

    def line_told(self):
        """The line of the statement that is done."""
        return self.line

    def live(self):
        """The function, its dots, its variables, and the values that wait."""
        return [self.closure] + self.dots + self.waiting + [cell.value for cell in self.variables]

    def cell_at(self, place):
        """The variable at a place: one of the frame, or an upvalue."""
        word, at = place
        return self.variables[at] if word == "reg" else self.closure.cells[at]

    def taken_from(self, base):
        """The values that wait from one on; they wait no longer."""
        found = self.waiting[base:]
        del self.waiting[base:]
        return found

    def do_later(self, tasks):
        """Notes what is to be done next, in this order."""
        self.todo.extend(tasks[::-1])

    def do_step(self, run):
        """Does what comes next."""
        task = self.todo.pop()
        act = task[0]
        act(self, run, task)

    def take(self, values):
        """Takes the results of a call."""
        self.answer = values

    def follow(self, run, deed):
        """Does what a deed tells; its value waits then."""
        if deed[0] == "call":
            self.todo.append((take_shaped, deed[3]))
            run.call(deed[1], deed[2])
        else:
            self.waiting.append(deed[1])
