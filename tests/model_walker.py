"""Programs run by the words of [32] to [44], part by part; variables lie in a chain that grows as they are declared."""

from model_runs import Cell, ended, is_true
from upvalues.numbers import for_plan
from upvalues.programs import statement_paths, tail_returns
from upvalues.scopes import jumps

MULTIPLE = ("call", "method", "dots")
CONSTANTS = {"nil": None, "true": True, "false": False}


class Break(Exception):
    pass


class Goto(Exception):
    def __init__(self, target):
        self.target = target


class Return(Exception):
    def __init__(self, done):
        self.done = done


class Known:
    """What is known of a program ahead of its run."""

    def __init__(self, program):
        self.lines = {path: at + 1 for at, path in enumerate(statement_paths(program))}
        self.tails = set(tail_returns(program))
        self.jumps = dict(jumps(program))


class Made:
    """What a function is made of: where it stands, in which line, and the variables around it."""

    def __init__(self, path, node, line, chain):
        self.path = path
        self.node = node
        self.line = line
        self.chain = chain


class WalkFrame:
    """A frame; chain is (name, cell, rest) of its variables in scope, and then of those around."""

    def __init__(self, known, run, closure, args):
        self.known = known
        self.run_ = run
        self.closure = closure
        made = closure.made_of
        _, params, has_dots, _ = made.node
        self.line = made.line
        self.around = made.chain
        self.chain = made.chain
        self.args = args
        for at, name in enumerate(params):
            self.begin(name, args[at] if at < len(args) else None)
        self.dots = args[len(params):] if has_dots else []
        self.waiting = []
        self.pending = []

    def begin(self, name, value):
        self.chain = (name, Cell(value), self.chain)

    def live(self):
        found = [self.closure] + self.dots + self.waiting
        chain = self.chain
        while chain is not self.around:
            found.append(chain[1].value)
            chain = chain[2]
        return found

    def run(self):
        made = self.closure.made_of
        done = ("results", [])
        try:
            self.statements(made.path + (3,) if made.path else (), made.node[3])
            self.line = made.line
        except Return as found:
            done = found.done
        self.chain = self.around
        if done[0] == "results":
            self.waiting = list(done[1])
            self.close_to(0)
        return done

    def close_to(self, many):
        while len(self.pending) > many:
            self.run_.close(self.pending.pop(), None)

    # Blocks.

    def block(self, path, block, names=(), values=(), question=None):
        """A block, with variables that begin with it and a question that is asked at its end; returns the answer."""
        line, chain, pending = self.line, self.chain, len(self.pending)
        answer = None
        for name, value in zip(names, values):
            self.begin(name, value)
        try:
            self.statements(path, block)
            self.line = line
            if question is not None:
                answer = is_true(self.value(*question))
        except (Break, Goto):
            self.chain = chain
            self.close_to(pending)
            raise
        self.chain = chain
        self.close_to(pending)
        return answer

    def statements(self, path, block):
        met = {}
        at = 0
        while at < len(block):
            met[at] = (self.chain, len(self.pending))
            here = path + (at,)
            self.line = self.known.lines[here]
            try:
                getattr(self, "do_" + block[at][0])(here, *block[at][1:])
            except Goto as found:
                if found.target[:-1] != path:
                    raise
                target = found.target[-1]
                for skipped in range(at + 1, target + 1):
                    met[skipped] = met[at]
                self.chain, pending = met[target]
                self.close_to(pending)
                self.run_.count()
                at = target
            at += 1

    # Statements.

    def do_local(self, path, names, marks, values):
        found = self.values(path + (3,), values, len(names))
        for name, mark, value in zip(names, marks, found):
            self.begin(name, value)
        for mark, value in zip(marks, found):
            if mark == "close":
                self.run_.check_closable(value)
                if is_true(value):
                    self.pending.append(value)

    def do_localfun(self, path, name, function):
        self.begin(name, None)
        self.chain[1].value = self.value(path + (2,), function)

    def do_set(self, path, targets, values):
        base = len(self.waiting)
        parts = []
        for at, target in enumerate(targets):
            here = path + (1, at)
            cell = self.cell(target[1]) if target[0] == "name" else None
            if cell is not None:
                parts.append(cell)
                continue
            if target[0] == "name":
                one, key = self.cell("_ENV").value, target[1]
                self.waiting += [one, key]
            else:
                one = self.value(here + (1,), target[1])
                self.waiting.append(one)
                key = self.value(here + (2,), target[2])
                self.waiting.append(key)
            parts.append((one, key))
        found = self.values(path + (2,), values, len(targets))
        self.waiting += found
        for part, value in reversed(list(zip(parts, found))):
            if isinstance(part, Cell):
                part.value = value
            else:
                self.run_.store(*part, value)
        del self.waiting[base:]

    def do_do(self, path, block):
        self.block(path + (1,), block)

    def do_while(self, path, question, block):
        try:
            while is_true(self.value(path + (1,), question)):
                self.run_.count()
                self.block(path + (2,), block)
        except Break:
            pass

    def do_repeat(self, path, block, question):
        try:
            self.run_.count()
            while not self.block(path + (1,), block, question=(path + (2,), question)):
                self.run_.count()
        except Break:
            pass

    def do_if(self, path, arms, other):
        for at, (question, block) in enumerate(arms):
            if is_true(self.value(path + (1, at, 0), question)):
                self.block(path + (1, at, 1), block)
                return
        if other is not None:
            self.block(path + (2,), other)

    def do_for(self, path, name, start, limit, step, block):
        base = len(self.waiting)
        self.waiting.append(self.value(path + (2,), start))
        self.waiting.append(self.value(path + (3,), limit))
        self.waiting.append(1 if step is None else self.value(path + (4,), step))
        plan = self.run_.plain(for_plan, *self.waiting[base:])
        del self.waiting[base:]
        goes_on = plan is not None
        try:
            while goes_on:
                self.run_.count()
                self.block(path + (5,), block, [name], [plan.value])
                goes_on = plan.goes_on()
        except Break:
            pass

    def do_forin(self, path, names, values, block):
        base, pending = len(self.waiting), len(self.pending)
        called, state, control, closed = self.values(path + (2,), values, 4)
        self.run_.check_closable(closed)
        if is_true(closed):
            self.pending.append(closed)
        self.waiting += [called, state, control]
        try:
            while True:
                found = self.run_.call(called, [state, self.waiting[-1]])[:len(names)]
                found += [None] * (len(names) - len(found))
                if found[0] is None:
                    break
                self.waiting[-1] = found[0]
                self.run_.count()
                self.block(path + (3,), block, names, found)
        except Break:
            pass
        except Goto:
            del self.waiting[base:]
            self.close_to(pending)
            raise
        del self.waiting[base:]
        self.close_to(pending)

    def do_call(self, path, call):
        self.multiple(path + (1,), call)

    def do_return(self, path, values):
        if path not in self.known.tails:
            raise Return(("results", self.values(path + (1,), values)))
        called, args = self.run_.target(*self.called(path + (1, 0), values[0]))
        self.run_.count()
        if hasattr(called, "act"):
            raise Return(("results", called.act(self.run_, args)))
        raise Return(("tail", called, args))

    def do_break(self, path):
        raise Break()

    def do_goto(self, path, name):
        raise Goto(self.known.jumps[path])

    def do_label(self, path, name):
        pass

    # Expressions.

    def cell(self, name):
        chain = self.chain
        while chain is not None:
            if chain[0] == name:
                return chain[1]
            chain = chain[2]
        return None

    def values(self, path, nodes, wanted=None):
        base = len(self.waiting)
        for at, node in enumerate(nodes):
            if at == len(nodes) - 1 and node[0] in MULTIPLE:
                self.waiting += self.multiple(path + (at,), node)
            else:
                self.waiting.append(self.value(path + (at,), node))
        found = self.waiting[base:]
        del self.waiting[base:]
        if wanted is not None:
            found = found[:wanted] + [None] * (wanted - len(found))
        return found

    def called(self, path, node):
        base = len(self.waiting)
        one = self.value(path + (1,), node[1])
        self.waiting.append(one)
        if node[0] == "method":
            # The value waits as the first argument while its field is read; then the function waits, too.
            self.waiting.append(self.run_.index(one, node[2]))
            args = [one] + self.values(path + (3,), node[3])
            one = self.waiting[-1]
        else:
            args = self.values(path + (2,), node[2])
        del self.waiting[base:]
        return one, args

    def multiple(self, path, node):
        if node[0] == "dots":
            return list(self.dots)
        return self.run_.call(*self.called(path, node))

    def value(self, path, node):
        word = node[0]
        if word in CONSTANTS:
            return CONSTANTS[word]
        if word in ("number", "string"):
            return node[1]
        if word in MULTIPLE:
            return (self.multiple(path, node) or [None])[0]
        return getattr(self, "get_" + word)(path, *node[1:])

    def pair(self, path, one, path2, other):
        first = self.value(path, one)
        self.waiting.append(first)
        second = self.value(path2, other)
        self.waiting.pop()
        return first, second

    def get_name(self, path, name):
        cell = self.cell(name)
        return self.run_.index(self.cell("_ENV").value, name) if cell is None else cell.value

    def get_function(self, path, params, has_dots, block):
        return self.run_.closure(Made(path, ("function", params, has_dots, block), self.line, self.chain))

    def get_index(self, path, one, key):
        return self.run_.index(*self.pair(path + (1,), one, path + (2,), key))

    def get_and(self, path, one, other):
        first = self.value(path + (1,), one)
        return self.value(path + (2,), other) if is_true(first) else first

    def get_or(self, path, one, other):
        first = self.value(path + (1,), one)
        return first if is_true(first) else self.value(path + (2,), other)

    def get_paren(self, path, one):
        return self.value(path + (1,), one)

    def get_op(self, path, word, one, other):
        return self.run_.operate(word, *self.pair(path + (2,), one, path + (3,), other))

    def get_unary(self, path, word, one):
        return self.run_.turn(word, self.value(path + (2,), one))

    def get_table(self, path, items):
        base = len(self.waiting)
        is_open = bool(items) and items[-1][0] == "item" and items[-1][1][0] in MULTIPLE
        pairs = sum(item[0] == "pair" for item in items)
        table = self.run_.new_table(len(items) - pairs - is_open, pairs)
        self.waiting.append(table)
        done = 0
        for at, item in enumerate(items):
            here = path + (1, at)
            waiting = self.waiting[base + 1:]
            if len(waiting) == 50:
                self.run_.batch(table, done + 1, waiting)
                done += 50
                del self.waiting[base + 1:]
            if item[0] == "pair":
                key, value = self.pair(here + (1,), item[1], here + (2,), item[2])
                self.run_.plain(table.put, key, value)
            elif is_open and at == len(items) - 1:
                self.waiting += self.multiple(here + (1,), item[1])
            else:
                self.waiting.append(self.value(here + (1,), item[1]))
        self.run_.batch(table, done + 1, self.waiting[base + 1:])
        del self.waiting[base:]
        return table


def run_program(program, work, is_soft=False, depth=25):
    """The end, the log and the work of a program."""
    known = Known(program)
    main = ("function", (), True, program)
    return ended(
        lambda run, closure, args: WalkFrame(known, run, closure, args),
        lambda run: run.closure(Made((), main, 0, ("_ENV", Cell(run.globals), None))),
        work,
        is_soft,
        depth,
    )
