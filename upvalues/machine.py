"""The machine of registers: one of the two engines, which runs code instruction by instruction."""

from upvalues.events import binary_deed, index_deed, length_deed, shaped, store_deed, unary_deed
from upvalues.frames import ProgramFrame
from upvalues.numbers import for_plan
from upvalues.objects import Cell, Thrown, is_true, kind_name
from upvalues.tables import Table


class Machine:
    """The engine for a program of code."""

    def __init__(self, codes):
        self.codes = codes
        self.main = codes[0]

    def frame(self, closure, given):
        """A frame for the call of a function."""
        return CodeFrame(self.codes, closure, given)


class CodeFrame(ProgramFrame):
    """A call of a function of code."""

    def __init__(self, codes, closure, given):
        code = closure.body
        ProgramFrame.__init__(self, closure, given[code.params:] if code.has_dots else [])
        self.codes = codes
        self.body = code
        params = given[:code.params]
        self.registers = [Cell(value) for value in params]
        self.registers.extend([Cell(None) for _ in range(code.size - len(params))])
        self.at = 0
        # The open row, and the plans of the loops by their registers.
        self.row = []
        self.plans = {}
        # The results of the frame, when they are known.
        self.results = None
        # What is made of the results of a deed's call.
        self.shape = None

    def line_told(self):
        """The line of the instruction that is done."""
        return self.body.lines[self.at]

    def live(self):
        """The function, its dots, and the results, or the open row and the registers that are live."""
        held = [self.closure] + self.dots
        if self.results is not None:
            return held + self.results
        return held + self.row + [cell.value for cell in self.registers[:self.body.lives[self.at]]]

    def read(self, place):
        """The value of a register."""
        return self.registers[place].value

    def write(self, place, value):
        """Puts a value into a register."""
        cell = self.registers[place]
        cell.value = value

    def write_many(self, first, values, many):
        """Puts so many values into the registers from one on, nil behind those that there are."""
        for at in range(many):
            self.write(first + at, values[at] if at < len(values) else None)

    def taken(self, first, many, is_open):
        """The values of some registers, and of the open row if it is taken; then there is none left."""
        values = [cell.value for cell in self.registers[first:first + many]]
        if is_open:
            values.extend(self.row)
        self.row = []
        return values

    def go_on(self):
        """Goes on to the next instruction."""
        self.at += 1

    def do_step(self, run):
        """Does one instruction."""
        part = self.body.instructions[self.at]
        act = ACTS[part[0]]
        act(self, run, part)

    def take(self, values):
        """Takes the results of what an instruction has called."""
        part = self.body.instructions[self.at]
        act = TAKERS[part[0]]
        act(self, part, values)

    def follow(self, run, deed, to):
        """Does what a deed tells; its value goes into a register, if there is one to take it."""
        if deed[0] == "call":
            self.shape = deed[3]
            run.call(deed[1], deed[2])
            return
        if to is not None:
            self.write(to, deed[1])
        self.at += 1


# What instructions do.


def do_move(frame, run, part):
    """("move", to, from)"""
    frame.write(part[1], frame.read(part[2]))
    frame.go_on()


def do_load(frame, run, part):
    """("load", to, value)"""
    frame.write(part[1], part[2])
    frame.go_on()


def do_upget(frame, run, part):
    """("upget", to, k)"""
    frame.write(part[1], frame.closure.cells[part[2]].value)
    frame.go_on()


def do_upset(frame, run, part):
    """("upset", k, from)"""
    cell = frame.closure.cells[part[1]]
    cell.value = frame.read(part[2])
    frame.go_on()


def do_get(frame, run, part):
    """("get", to, one, key)"""
    frame.follow(run, index_deed(frame.read(part[2]), frame.read(part[3])), part[1])


def do_set(frame, run, part):
    """("set", one, key, from)"""
    frame.follow(run, store_deed(frame.read(part[1]), frame.read(part[2]), frame.read(part[3])), None)


def do_self(frame, run, part):
    """("self", to, one, name)"""
    one = frame.read(part[2])
    frame.write(part[1], one)
    frame.write(part[1] + 1, one)
    frame.follow(run, index_deed(one, part[3]), part[1])


def do_table(frame, run, part):
    """("table", to, places, nodes)"""
    frame.write(part[1], run.new_table(part[2], part[3]))
    frame.go_on()


def do_append(frame, run, part):
    """("append", one, first, many, start, is_open)"""
    _, one, first, many, start, is_open = part
    table = frame.read(one)
    if not isinstance(table, Table):
        raise Thrown(f"attempt to index a {kind_name(table)} value")
    table.put_batch(start, frame.taken(first, many, is_open))
    frame.go_on()


def do_op(frame, run, part):
    """("op", to, word, one, other)"""
    frame.follow(run, binary_deed(part[2], frame.read(part[3]), frame.read(part[4])), part[1])


def do_unary(frame, run, part):
    """("unary", to, word, one)"""
    _, to, word, place = part
    one = frame.read(place)
    if word == "not":
        frame.follow(run, ("value", not is_true(one)), to)
    elif word == "len":
        frame.follow(run, length_deed(one), to)
    else:
        frame.follow(run, unary_deed(word, one), to)


def do_function(frame, run, part):
    """("function", to, number)"""
    code = frame.codes[part[2]]
    cells = [
        frame.registers[place] if word == "reg" else frame.closure.cells[place]
        for word, place in code.upvalues
    ]
    frame.write(part[1], run.new_closure(code, cells))
    frame.go_on()


def do_jump(frame, run, part):
    """("jump", at)"""
    frame.at = part[1]


def do_if(frame, run, part):
    """("if", one, at)"""
    frame.at = part[2] if is_true(frame.read(part[1])) else frame.at + 1


def do_unless(frame, run, part):
    """("unless", one, at)"""
    frame.at = frame.at + 1 if is_true(frame.read(part[1])) else part[2]


def do_round(frame, run, part):
    """("round",)"""
    run.count_work()
    frame.go_on()


def do_forbegin(frame, run, part):
    """("forbegin", one, at)"""
    _, one, at = part
    plan = for_plan(frame.read(one), frame.read(one + 1), frame.read(one + 2))
    frame.plans[one] = plan
    if plan is None:
        frame.at = at
    else:
        frame.write(one + 3, plan.value)
        frame.go_on()


def do_fornext(frame, run, part):
    """("fornext", one, at)"""
    _, one, at = part
    plan = frame.plans.get(one)
    if plan is not None and plan.goes_on():
        frame.write(one + 3, plan.value)
        frame.at = at
    else:
        frame.go_on()


def do_eachcall(frame, run, part):
    """("eachcall", one, many)"""
    one = part[1]
    run.call(frame.read(one), [frame.read(one + 1), frame.read(one + 2)])


def do_eachnext(frame, run, part):
    """("eachnext", one, at)"""
    _, one, at = part
    control = frame.read(one + 4)
    if control is None:
        frame.go_on()
    else:
        frame.write(one + 2, control)
        frame.at = at


def do_call(frame, run, part):
    """("call", first, many, is_open, wanted)"""
    values = frame.taken(part[1], part[2] + 1, part[3])
    run.call(values[0], values[1:])


def do_tail(frame, run, part):
    """("tail", first, many, is_open)"""
    if frame.results is not None:
        run.leave(frame.results)
        return
    values = frame.taken(part[1], part[2] + 1, part[3])
    run.tail(values[0], values[1:])


def do_return(frame, run, part):
    """("return", first, many, is_open)"""
    if frame.results is None:
        frame.results = frame.taken(part[1], part[2], part[3])
    if frame.has_pending(0):
        frame.close_last(run)
    else:
        run.leave(frame.results)


def do_dots(frame, run, part):
    """("dots", to, wanted)"""
    _, to, wanted = part
    if wanted is None:
        frame.row = list(frame.dots)
    else:
        frame.write_many(to, frame.dots, wanted)
    frame.go_on()


def do_mark(frame, run, part):
    """("mark", one)"""
    frame.begin_pending(part[1], frame.read(part[1]))
    frame.go_on()


def do_close(frame, run, part):
    """("close", one)"""
    floor = part[1]
    # It is done again behind each closer; no function captures anything meanwhile.
    frame.registers[floor:] = [Cell(cell.value) for cell in frame.registers[floor:]]
    if frame.has_pending(floor):
        frame.close_last(run)
    else:
        frame.go_on()


# What instructions do with the results of what they have called.


def take_value(frame, part, values):
    """What is made of the results goes into a register."""
    frame.write(part[1], shaped(values, frame.shape))
    frame.go_on()


def take_none(frame, part, values):
    """The results are dropped."""
    frame.go_on()


def take_each(frame, part, values):
    """The results go behind the hidden values of a forin."""
    frame.write_many(part[1] + 4, values, part[2])
    frame.go_on()


def take_wanted(frame, part, values):
    """So many results as are wanted go into registers, or all of them are the open row."""
    if part[4] is None:
        frame.row = values
    else:
        frame.write_many(part[1], values, part[4])
    frame.go_on()


def take_results(frame, part, values):
    """The results are those of the frame."""
    frame.results = values


def take_closed(frame, part, values):
    """The results of a closer are dropped, and the instruction goes on."""


ACTS = {
    "move": do_move,
    "load": do_load,
    "upget": do_upget,
    "upset": do_upset,
    "get": do_get,
    "set": do_set,
    "self": do_self,
    "table": do_table,
    "append": do_append,
    "op": do_op,
    "unary": do_unary,
    "function": do_function,
    "jump": do_jump,
    "if": do_if,
    "unless": do_unless,
    "round": do_round,
    "forbegin": do_forbegin,
    "fornext": do_fornext,
    "eachcall": do_eachcall,
    "eachnext": do_eachnext,
    "call": do_call,
    "tail": do_tail,
    "return": do_return,
    "dots": do_dots,
    "mark": do_mark,
    "close": do_close,
}
TAKERS = {
    "get": take_value,
    "set": take_none,
    "self": take_value,
    "op": take_value,
    "unary": take_value,
    "eachcall": take_each,
    "call": take_wanted,
    "tail": take_results,
    "close": take_closed,
    "return": take_closed,
}
