"""What both engines of the tests share: calls, events, errors, closing, and a library that tells what is live.

A frame has: line (None for one of the library), live() (the values that it holds itself), pending (a list), and
run(), which returns ("results", values) or ("tail", called, args).
"""

from upvalues.numbers import Float, arith, bit_not, compare, is_number, negated, same
from upvalues.numerals import text_of
from upvalues.objects import Kinded, Native, Thrown, kind_name
from upvalues.tables import Table

EVENTS = {"floor": "__idiv", "neg": "__unm", "gt": "__lt", "ge": "__le"}
BIT_WORDS = ("band", "bor", "bxor", "shl", "shr", "bnot")


class Thrown2(Exception):
    """A value that is thrown in a run."""

    def __init__(self, value):
        self.value = value


class OutOfWork(Exception):
    """The run wanted more work than it has."""


class Cell:
    """A variable."""

    def __init__(self, value=None):
        self.value = value


class Closure(Kinded):
    """A function of the program; what it is made of is the engine's."""

    KIND = "function"

    def __init__(self, number, made_of):
        self.number = number
        self.made_of = made_of


class Caught:
    """The frame of a pcall, or the bottom: it holds what is still to be closed."""

    line = None

    def __init__(self):
        self.pending = []
        self.held = []

    def live(self):
        return list(self.held)


def is_true(value):
    return value is not None and value is not False


def told(value):
    if isinstance(value, (Table, Closure)):
        return (value.KIND, value.number)
    if isinstance(value, Native):
        return ("native", value.name)
    if isinstance(value, Float):
        return ("float", text_of(value))
    return value


def is_object(value):
    return isinstance(value, (Table, Closure))


class Run:
    """A run; make_frame(run, closure, args) is the engine."""

    def __init__(self, make_frame, work, is_soft=False, depth=25):
        self.make_frame = make_frame
        self.is_soft = is_soft
        self.work = work
        self.depth = depth
        self.spent = 0
        self.frames = [Caught()]
        self.log = []
        self.made = {"table": 0, "function": 0}
        self.globals = self.new_table()
        self.full = self.new_table()
        for word in "index newindex add sub mul div idiv mod band bor bxor shl shr unm bnot concat len eq lt le call close".split():
            self.full.put("__" + word, Native(word, lambda run, args, word=word: run.event(word, args)))
        for word, act in (("probe", probe), ("obj", make_object), ("setmt", set_meta), ("fail", fail), ("pcall", protected)):
            self.globals.put(word, Native(word, act))
        unknown = self.new_table()
        unknown.put("__index", Native("unknown", make_object))
        self.globals.meta = unknown

    def number(self, kind):
        self.made[kind] += 1
        return self.made[kind] - 1

    def new_table(self, places=0, nodes=0):
        return Table(self.number("table"), places, nodes)

    def closure(self, made_of):
        return Closure(self.number("function"), made_of)

    def count(self):
        if self.spent == self.work:
            raise OutOfWork()
        self.spent += 1

    def fail(self, text):
        line = self.frames[-1].line
        raise Thrown2(text if line is None else f"{line}: {text}")

    def fail_with(self, text, value):
        """Fails; in a soft run only at times, so that it lasts longer, and else gives a value."""
        if not self.is_soft or len(self.log) % 9 == 0:
            self.fail(text)
        self.log.append(text)
        return value

    def plain(self, act, *args):
        """Does what raises Thrown, with a line put ahead."""
        try:
            return act(*args)
        except Thrown as error:
            return self.fail_with(error.value, None)

    def event(self, word, args):
        """What the events of objects do: they tell what is live, and answer in turns."""
        self.tell(word, args)
        turn = len(self.log)
        if word == "close":
            return fail(self, [f"closer {turn}"]) if turn % 7 == 0 else []
        if word in ("eq", "lt", "le"):
            return [turn % 2 == 0]
        if word == "call":
            return [make_object(self, [])[0] if turn % 3 else None, turn, args[-1]][:turn % 4]
        if word == "len":
            return [3]
        return [make_object(self, [])[0] if turn % 4 else turn]

    def tell(self, word, args):
        """Puts down what is live in each frame."""
        rows = []
        for frame in self.frames:
            found = {told(value) for value in frame.live() + frame.pending if is_object(value)}
            rows.append((frame.line, sorted(found), [told(value) for value in frame.pending]))
        self.log.append((word, [told(value) for value in args], self.spent, rows))

    # Calls.

    def target(self, called, args):
        row = 0
        while not isinstance(called, (Closure, Native)):
            event = self.meta(called, "__call")
            if event is None:
                event = self.fail_with(f"attempt to call a {kind_name(called)} value", self.full.get("__call"))
            called, args = event, [called] + args
            row += 1
            assert row < 90
        return called, args

    def call(self, called, args):
        called, args = self.target(called, args)
        self.count()
        while True:
            if isinstance(called, Native):
                return called.act(self, args)
            if len(self.frames) >= self.depth:
                self.fail("stack overflow")
            frame = self.make_frame(self, called, args)
            self.frames.append(frame)
            done = frame.run()
            self.frames.pop()
            if done[0] == "results":
                return done[1]
            called, args = done[1:]

    def close(self, value, error):
        event = self.meta(value, "__close")
        self.call(value if event is None and not self.is_soft else event or self.full.get("__close"), [value, error])

    def check_closable(self, value):
        if is_true(value) and self.meta(value, "__close") is None:
            self.fail_with("variable got a non-closable value", None)

    def catch(self, act, *args):
        """True and the results, or False and what is thrown, when all that was pending is closed."""
        catcher = Caught()
        if len(self.frames) >= self.depth:
            self.fail("stack overflow")
        self.frames.append(catcher)
        try:
            results = act(*args)
            self.frames.pop()
            return [True] + results
        except Thrown2 as error:
            thrown = error.value
        while True:
            place = self.frames.index(catcher)
            for frame in self.frames[place + 1:]:
                catcher.pending += frame.pending
            del self.frames[place + 1:]
            if not catcher.pending:
                break
            catcher.held = [thrown]
            try:
                self.close(catcher.pending.pop(), thrown)
            except Thrown2 as error:
                thrown = error.value
        self.frames.pop()
        return [False, thrown]

    # Events.

    def meta(self, value, word):
        return value.meta.get(word) if isinstance(value, Table) and value.meta is not None else None

    def first(self, called, args):
        results = self.call(called, args)
        return results[0] if results else None

    def index(self, thing, key):
        for _ in range(50):
            if not isinstance(thing, Table):
                return self.fail_with(f"attempt to index a {kind_name(thing)} value", self.full)
            found = thing.get(key)
            event = self.meta(thing, "__index")
            if found is not None or event is None:
                return found
            if isinstance(event, (Closure, Native)):
                return self.first(event, [thing, key])
            thing = event
        self.fail("loop")

    def store(self, thing, key, value):
        for _ in range(50):
            if not isinstance(thing, Table):
                return self.fail_with(f"attempt to index a {kind_name(thing)} value", None)
            event = self.meta(thing, "__newindex")
            if event is None or thing.get(key) is not None:
                self.plain(thing.put, key, value)
                return
            if isinstance(event, (Closure, Native)):
                self.call(event, [thing, key, value])
                return
            thing = event
        self.fail("loop")

    def batch(self, table, start, values):
        table.make_room(start + len(values) - 1)
        for at in reversed(range(len(values))):
            table.put(start + at, values[at])

    def by_event(self, word, one, other):
        """The event of the first that has one, called; or None in a list for none."""
        name = EVENTS.get(word, "__" + word)
        event = self.meta(one, name)
        if event is None:
            event = self.meta(other, name)
        return [] if event is None else [self.first(event, [one, other])]

    def operate(self, word, one, other):
        if word in ("eq", "ne"):
            answer = same(one, other)
            if not answer and isinstance(one, Table) and isinstance(other, Table):
                answer = is_true((self.by_event("eq", one, other) or [False])[0])
            return answer == (word == "eq")
        if word in ("gt", "ge"):
            return self.operate("lt" if word == "gt" else "le", other, one)
        if word in ("lt", "le"):
            return self.less(word, one, other)
        if word == "concat":
            return self.concat(one, other)
        if is_number(one) and is_number(other):
            return self.plain(arith, word, one, other)
        found = self.by_event(word, one, other)
        if found:
            return found[0]
        what = "perform bitwise operation on" if word in BIT_WORDS else "perform arithmetic on"
        return self.fail_with(f"attempt to {what} a {kind_name(other if is_number(one) else one)} value", 1)

    def less(self, word, one, other):
        if is_number(one) and is_number(other):
            return compare(word, one, other)
        if isinstance(one, str) and isinstance(other, str):
            return one < other if word == "lt" else one <= other
        found = self.by_event(word, one, other)
        if found:
            return is_true(found[0])
        kinds = [kind_name(one), kind_name(other)]
        what = f"two {kinds[0]} values" if kinds[0] == kinds[1] else f"{kinds[0]} with {kinds[1]}"
        return self.fail_with(f"attempt to compare {what}", True)

    def concat(self, one, other):
        fits = [isinstance(value, str) or is_number(value) for value in (one, other)]
        if all(fits):
            return "".join(value if isinstance(value, str) else text_of(value) for value in (one, other))[:60]
        found = self.by_event("concat", one, other)
        if found:
            return found[0]
        return self.fail_with(f"attempt to concatenate a {kind_name(other if fits[0] else one)} value", "s")

    def turn(self, word, one):
        if word == "not":
            return not is_true(one)
        if word == "len" and isinstance(one, str):
            return len(one)
        if word in ("neg", "bnot") and is_number(one):
            return self.plain(negated if word == "neg" else bit_not, one)
        found = self.by_event(word, one, one)
        if found:
            return found[0]
        if word == "len" and isinstance(one, Table):
            return one.border()
        what = {"neg": "perform arithmetic on", "bnot": "perform bitwise operation on", "len": "get length of"}[word]
        return self.fail_with(f"attempt to {what} a {kind_name(one)} value", 1)


# The library.

def probe(run, args):
    run.tell("probe", args)
    return list(args)


def make_object(run, args):
    found = run.new_table()
    found.meta = run.full
    return [found]


def set_meta(run, args):
    if len(args) < 2 or not isinstance(args[0], Table) or not (args[1] is None or isinstance(args[1], Table)):
        run.fail("bad argument")
    args[0].meta = args[1]
    return args[:1]


def fail(run, args):
    value = args[0] if args else None
    if isinstance(value, str):
        run.fail(value)
    raise Thrown2(value)


def protected(run, args):
    if not args:
        run.fail("value expected")
    return run.catch(run.call, args[0], args[1:])


def ended(make_frame, main, work, is_soft, depth=25):
    """The end, the log and the work of a run."""
    run = Run(make_frame, work, is_soft, depth)
    try:
        done = run.catch(run.call, main(run), [])
    except OutOfWork:
        done = ["out of work"]
    return [told(value) for value in done], run.log, run.spent
