"""Code run by the words of [61] to [67]."""

from model_runs import Cell, Thrown2, ended, is_true
from upvalues.numbers import for_plan


class Made:
    """What a function is made of: its number, and the cells of its upvalues."""

    def __init__(self, number, cells):
        self.number = number
        self.cells = cells


class CodeFrame:
    """A frame of code."""

    def __init__(self, codes, run, closure, args):
        self.codes = codes
        self.run_ = run
        self.closure = closure
        self.code = codes[closure.made_of.number]
        self.cells = closure.made_of.cells
        self.registers = [Cell() for _ in range(self.code.size)]
        for at in range(self.code.params):
            self.registers[at].value = args[at] if at < len(args) else None
        self.dots = args[self.code.params:] if self.code.has_dots else []
        self.pending = []
        self.marked = []
        self.row = []
        self.results = None
        self.plans = {}
        self.at = 0

    @property
    def line(self):
        return self.code.lines[self.at]

    def live(self):
        if self.results is not None:
            return [self.closure] + self.dots + self.results
        return [self.closure] + self.dots + self.row + [cell.value for cell in self.registers[:self.code.lives[self.at]]]

    def get(self, place):
        return self.registers[place].value

    def put(self, place, values, many=None):
        for at in range(len(values) if many is None else many):
            self.registers[place + at].value = values[at] if at < len(values) else None

    def values(self, first, many, is_open):
        row, self.row = self.row, []
        return [self.get(first + at) for at in range(many)] + (row if is_open else [])

    def run(self):
        while True:
            part = self.code.instructions[self.at]
            if part[0] == "return":
                self.results = self.values(*part[1:])
                self.close_from(0)
                return ("results", self.results)
            if part[0] == "tail":
                return self.tail(*part[1:])
            target = getattr(self, "do_" + part[0])(*part[1:])
            self.at = self.at + 1 if target is None else target

    def tail(self, first, many, is_open):
        called, *args = self.values(first, many + 1, is_open)
        called, args = self.run_.target(called, args)
        self.run_.count()
        if hasattr(called, "act"):
            return ("results", called.act(self.run_, args))
        return ("tail", called, args)

    def close_from(self, place):
        while self.marked and self.marked[-1] >= place:
            self.marked.pop()
            self.run_.close(self.pending.pop(), None)

    def do_move(self, to, one):
        self.put(to, [self.get(one)])

    def do_load(self, to, value):
        self.put(to, [value])

    def do_upget(self, to, number):
        self.put(to, [self.cells[number].value])

    def do_upset(self, number, one):
        self.cells[number].value = self.get(one)

    def do_get(self, to, one, key):
        self.put(to, [self.run_.index(self.get(one), self.get(key))])

    def do_set(self, one, key, value):
        self.run_.store(self.get(one), self.get(key), self.get(value))

    def do_self(self, to, one, name):
        self.put(to, [self.get(one)] * 2)
        self.put(to, [self.run_.index(self.get(to + 1), name)])

    def do_table(self, to, places, nodes):
        self.put(to, [self.run_.new_table(places, nodes)])

    def do_append(self, one, first, many, start, is_open):
        self.run_.batch(self.get(one), start, self.values(first, many, is_open))

    def do_op(self, to, word, one, other):
        self.put(to, [self.run_.operate(word, self.get(one), self.get(other))])

    def do_unary(self, to, word, one):
        self.put(to, [self.run_.turn(word, self.get(one))])

    def do_function(self, to, number):
        cells = [self.registers[place] if kind == "reg" else self.cells[place] for kind, place in self.codes[number].upvalues]
        self.put(to, [self.run_.closure(Made(number, cells))])

    def do_jump(self, at):
        return at

    def do_if(self, one, at):
        return at if is_true(self.get(one)) else None

    def do_unless(self, one, at):
        return None if is_true(self.get(one)) else at

    def do_round(self):
        self.run_.count()

    def do_forbegin(self, one, at):
        plan = self.run_.plain(for_plan, *[self.get(one + place) for place in range(3)])
        self.plans[one] = plan
        if plan is None:
            return at
        self.put(one + 3, [plan.value])
        return None

    def do_fornext(self, one, at):
        plan = self.plans.get(one)
        if plan is None or not plan.goes_on():
            return None
        self.put(one + 3, [plan.value])
        return at

    def do_eachcall(self, one, many):
        self.put(one + 4, self.run_.call(self.get(one), [self.get(one + 1), self.get(one + 2)]), many)

    def do_eachnext(self, one, at):
        if self.get(one + 4) is None:
            return None
        self.put(one + 2, [self.get(one + 4)])
        return at

    def do_call(self, first, many, is_open, wanted):
        called, *args = self.values(first, many + 1, is_open)
        results = self.run_.call(called, args)
        if wanted is None:
            self.row = results
        else:
            self.put(first, results, wanted)

    def do_dots(self, to, wanted):
        if wanted is None:
            self.row = list(self.dots)
        else:
            self.put(to, self.dots, wanted)

    def do_mark(self, one):
        value = self.get(one)
        self.run_.check_closable(value)
        if is_true(value):
            self.pending.append(value)
            self.marked.append(one)

    def do_close(self, one):
        self.registers[one:] = [Cell(cell.value) for cell in self.registers[one:]]
        self.close_from(one)


def run_code(codes, work, is_soft=False):
    """The end, the log and the work of a program of code."""
    return ended(
        lambda run, closure, args: CodeFrame(codes, run, closure, args),
        lambda run: run.closure(Made(0, [Cell(run.globals)])),
        work,
        is_soft,
    )
