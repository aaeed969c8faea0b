"""[68]: compiled programs do what the programs do; a machine and a walker of the tests run both."""

import sys
import unittest

from builders import (BREAK, NIL, call, count, do, each, function, give, goto, label, local, name, names, put, real, repeat)
from model_judge import code_fault
from model_machine import run_code
from model_walker import run_program
from program_maker import made_programs
from upvalues.compiler import compile_program
from upvalues.numerals import text_of

A, B, C, F, T, X = names("a", "b", "c", "f", "t", "x")
TRUE = ("true",)
EMPTY = ("table", ())
sys.setrecursionlimit(max(sys.getrecursionlimit(), 20000))


def num(value):
    return ("number", value)


def text(value):
    return ("string", value)


def op(word, one, other):
    return ("op", word, one, other)


def probe(*values):
    return call(name("probe"), *values)


def probing(*values):
    return ("call", probe(*values))


def tell(*values):
    """A probe of numbers."""
    return probe(*[num(value) for value in values])


def obj():
    return call(name("obj"))


def pcall(*values):
    return call(name("pcall"), *values)


def index(one, key):
    return ("index", one, text(key) if isinstance(key, str) else num(key))


def table(*items):
    return ("table", tuple(("item", item) for item in items))


def when(question, *block, other=None):
    return ("if", ((question, block),), other)


def closed(word, value):
    return local(word, value, marks=("close",))


def closer(body, word="v"):
    """A table whose event __close is a function."""
    return call(name("setmt"), EMPTY, ("table", (("pair", text("__close"), function(*body, params=word + " e")),)))


def step(word, by=1):
    """Adds to a variable."""
    return put(name(word), op("add", name(word), num(by)))


class RunsTest(unittest.TestCase):
    def run_both(self, program, work=1000):
        codes = compile_program(program)
        self.assertIsNone(code_fault(codes))
        found = run_code(codes, work)
        self.assertEqual(found, run_program(program, work))
        return found

    def ends(self, program, *results):
        self.assertEqual(self.run_both(program)[0], [True, *results])

    def fails(self, program, value):
        self.assertEqual(self.run_both(program)[0], [False, value])

    def tells(self, program, *rows):
        """What probes and events are called with."""
        found = [(tuple(args) if word == "probe" else (word, *args)) for word, args, _, _ in self.run_both(program)[1]]
        self.assertEqual(found, list(rows))

    def lives(self, program, *rows, word=None):
        """What the topmost frame holds at each probe, or at each event of one name."""
        log = [row for row in self.run_both(program)[1] if row[0] == word or word is None]
        self.assertEqual([told(row[3][-1][1]) for row in log], list(rows))

    def work(self, program, work):
        """How much work a program does; one less is too little."""
        self.assertEqual(self.run_both(program)[2], work)
        self.assertEqual(self.run_both(program, work)[0][0], True)
        self.assertEqual(self.run_both(program, work - 1)[0], ["out of work"])


def told(objects):
    """Objects that were made by the program: as t3 or f1; the function of the frame is left out."""
    return " ".join(kind[0] + str(number) for kind, number in objects if (kind, number) != ("function", 0))


class ExpressionTest(RunsTest):
    def test_the_example(self):
        call_step = call(name("step"))
        body = function(put(X, op("add", X, num(1))), give(X))
        program = (local("x", num(5)), ("localfun", "step", body), probing(call_step, call_step), give(call_step))
        self.tells(program, (6, 7))
        self.ends(program, 8)
        self.work(program, 5)

    def test_constants(self):
        self.ends((give(NIL, TRUE, ("false",), num(-7), num(real(0.5)), text("x")),), None, True, False, -7, ("float", "0.5"), "x")

    def test_operators(self):
        self.ends((give(op("sub", num(7), num(2)), op("concat", text("a"), num(1)), op("lt", num(1), num(2)), op("ge", num(1), num(2)),
                        op("eq", text("a"), text("a")), op("ne", text("a"), NIL), op("floor", num(7), num(2)), op("div", num(7), num(2))),),
                  5, "a1", True, False, True, True, 3, ("float", "3.5"))
        self.ends((give(("unary", "neg", num(3)), ("unary", "not", NIL), ("unary", "not", num(0)), ("unary", "len", text("abc")),
                        ("unary", "bnot", num(0))),), -3, True, False, 3, -1)

    def test_from_left_to_right(self):
        self.tells((local("x", op("add", tell(1), op("mul", tell(2), tell(3)))),), (1,), (2,), (3,))
        self.tells((local("x", ("index", probe(EMPTY), tell(1))),), (("table", 3),), (1,))
        self.tells((probing(tell(1), tell(2)),), (1,), (2,), (1, 2))
        self.tells((("call", ("method", obj(), "m", (tell(1),))),), ("index", ("table", 3), "m"), (1,), ("call", ("table", 4), ("table", 3), 1))

    def test_a_name_is_taken_at_its_turn(self):
        change = ("localfun", "f", function(put(X, num(5)), give(num(10))))
        self.ends((local("x", num(1)), change, give(op("add", X, call(F)), X)), 11, 5)
        self.ends((local("x", num(1)), change, local("y", X, call(F), X), give(name("y"))), 1)
        self.ends((local("x", num(1)), change, probing(X, call(F), X), give(table(X), X)), ("table", 3), 5)
        self.tells((local("x", num(1)), change, probing(X, call(F), X)), (1, 10, 5))
        self.ends((put(X, num(1)), ("localfun", "f", function(put(X, num(5)), give(num(10)))), give(op("add", X, call(F)))), 11)

    def test_and_or(self):
        self.ends((give(("and", NIL, tell(1)), ("and", num(0), num(2)), ("or", ("false",), num(3)), ("or", num(4), tell(1)),
                        ("and", ("or", NIL, num(5)), ("and", num(6), NIL)), ("or", ("and", NIL, NIL), ("false",))),), None, 2, 3, 4, None, False)
        self.tells((local("x", ("and", tell(1), ("or", NIL, tell(2)))),), (1,), (2,))

    def test_how_many_values(self):
        three = ("localfun", "f", function(give(num(1), num(2), num(3))))
        none = ("localfun", "g", function())
        self.ends((three, give(call(F))), 1, 2, 3)
        self.ends((three, give(call(F), call(F))), 1, 1, 2, 3)
        self.ends((three, give(("paren", call(F)))), 1)
        self.ends((three, local("a b c d", call(F)), give(A, B, C, name("d"))), 1, 2, 3, None)
        self.ends((three, local("a b", num(0), call(F)), give(A, B)), 0, 1)
        self.ends((three, local("a", num(0), call(F)), give(A)), 0)
        self.ends((three, local("a b", call(F), num(9)), give(A, B)), 1, 9)
        self.ends((three, local("a b", ("paren", call(F))), give(A, B)), 1, None)
        self.ends((three, put(A, num(5)), ("set", (A, B), (call(F),)), give(A, B)), 1, 2)
        self.ends((none, local("a b", call(name("g"))), give(A, B, call(name("g")))), None, None)
        self.ends((none, give(call(name("g")), call(name("g")))), None)
        self.ends((three, local("t", table(num(0), call(F))), give(index(T, 1), index(T, 4), index(T, 5))), 0, 3, None)
        self.ends((three, local("t", table(call(F), num(0))), give(index(T, 1), index(T, 2), index(T, 3))), 1, 0, None)
        self.ends((three, local("t", table(("paren", call(F)))), give(index(T, 1), index(T, 2))), 1, None)
        self.tells((three, probing(call(F), call(F))), (1, 1, 2, 3))

    def test_dots(self):
        f = ("localfun", "f", function(local("a b", ("dots",)), give(A, B, ("paren", ("dots",)), ("dots",)), params="p", dots=True))
        self.ends((f, give(call(F, num(1), num(2), num(3)))), 2, 3, 2, 2, 3)
        self.ends((f, give(call(F))), None, None, None)
        self.ends((give(("dots",)),))
        g = ("localfun", "g", function(give(name("p")), params="p q"))
        self.ends((g, give(call(name("g"), num(1), num(2), num(3)), call(name("g")))), 1, None)

    def test_methods(self):
        make = local("t", ("table", (("pair", text("m"), function(give(name("s"), ("dots",)), params="s", dots=True)), ("pair", text("k"), num(9)))))
        self.ends((make, give(("method", T, "m", (num(1), ("paren", tell(2, 3)), tell(4, 5))))), ("table", 3), 1, 2, 4, 5)
        self.ends((make, local("s", ("method", T, "m", ())), give(index(name("s"), "k"))), 9)

    def test_tables(self):
        items = (("item", num(1)), ("pair", text("k"), num(2)), ("item", num(3)), ("pair", num(4), num(5)))
        self.ends((local("t", ("table", items)), give(index(T, 1), index(T, 2), index(T, 4), index(T, "k"), ("unary", "len", T))), 1, 3, 5, 2, 2)
        # Items are stored behind the pairs that come ahead of them.
        self.ends((local("t", ("table", (("item", num(1)), ("pair", num(1), num(2))))), give(index(T, 1))), 1)
        self.fails((local("t", ("table", (("pair", NIL, num(2)),))),), "1: table index is nil")
        self.fails((put(A), local("t", ("table", (("pair", op("div", num(0), num(0)), NIL),)))), "2: table index is NaN")

    def test_batches(self):
        for many in (49, 50, 51, 52, 99, 100, 101, 150):
            items = tuple(("item", num(at + 1)) for at in range(many))
            first = (("pair", num(1), num(-1)),)
            self.ends((local("t", ("table", first + items)), give(index(T, 1), index(T, many), index(T, many + 1), ("unary", "len", T))), 1, many, None, many)
            # A pair behind fifty items or more comes behind their batch.
            self.ends((local("t", ("table", items + first)), give(index(T, 1))), -1 if many >= 50 else 1)
            self.ends((local("t", ("table", items + (("item", tell(7, 8, 9)),))), give(index(T, many), index(T, many + 1), index(T, many + 3))), many, 7, 9)

    def test_room_of_tables(self):
        for items, room in (((), (0, 0)), ((("item", num(1)),), (1, 0)), ((("pair", text("k"), num(1)),) * 3, (0, 3)),
                            ((("item", tell(1)),), (0, 0)), ((("item", tell(1)), ("item", num(1))), (2, 0)),
                            ((("item", tell(1)), ("pair", num(1), num(1))), (1, 1)), ((("pair", num(1), num(1)), ("item", ("dots",))), (0, 1)),
                            ((("item", ("paren", tell(1))),), (1, 0)), ((("item", num(1)),) * 60 + (("item", tell(1)),), (60, 0)),
                            ((("pair", num(1), tell(1)),), (0, 1)), ((("item", ("method", T, "m", ())),), (0, 0))):
            parts = [part for part in compile_program((give(("table", items)),))[0].instructions if part[0] == "table"]
            self.assertEqual([part[2:] for part in parts], [room])


class StatementTest(RunsTest):
    def test_set(self):
        self.ends((local("a b", num(1), num(2)), ("set", (A, B), (B, A)), give(A, B)), 2, 1)
        self.ends((local("a b"), ("set", (A, B), (num(1),)), give(A, B)), 1, None)
        self.ends((put(A, num(1)), give(A, index(name("_ENV"), "a"))), 1, 1)
        self.ends((local("t", EMPTY), put(index(T, "k"), num(1)), give(index(T, "k"))), 1)

    def test_stores_from_the_last_to_the_first(self):
        self.ends((local("a"), ("set", (A, A, A), (num(1), num(2), num(3))), give(A)), 1)
        self.ends((local("t", EMPTY), ("set", (index(T, "k"), index(T, "k")), (num(1), num(2))), give(index(T, "k"))), 1)
        o = name("o")
        self.tells((local("o", obj()), ("set", (index(o, "k"), X, index(o, "l")), (num(1), num(2), num(3)))),
                   ("newindex", ("table", 3), "l", 3), ("newindex", ("table", 3), "k", 1))

    def test_targets_ahead_of_values(self):
        self.tells((local("t", EMPTY), ("set", (("index", probe(T, num(1)), tell(2)), X, ("index", T, tell(3))), (tell(4), tell(5), tell(6), tell(7)))),
                   (("table", 3), 1), (2,), (3,), (4,), (5,), (6,), (7,))
        # The parts of a target are those at their turn.
        self.ends((local("a i", EMPTY, num(1)), local("t", A), ("set", (name("i"), ("index", A, name("i")), A), (num(5), num(7), NIL)),
                   give(index(T, 1), index(T, 5), A)), 7, None, None)

    def test_fields_have_the_table_of_their_turn(self):
        self.ends((local("e", EMPTY), local("_ENV", name("e")), ("set", (X, name("_ENV")), (num(1), NIL)), give(index(name("e"), "x"))), 1)
        self.ends((local("old", EMPTY), local("_ENV", name("old")), ("localfun", "f", function(put(name("_ENV"), EMPTY), give(num(3)))), put(X, call(F)),
                   give(index(name("old"), "x"), X)), 3, None)

    def test_if_and_while(self):
        program = (local("a", num(0)), ("while", op("lt", A, num(3)), (step("a"), ("if", ((op("eq", A, num(1)), (probing(text("one")),)),
                   (op("eq", A, num(2)), (probing(text("two")),))), (probing(text("more")),)))), give(A))
        self.tells(program, ("one",), ("two",), ("more",))
        self.ends(program, 3)
        self.work(program, 1 + 3 + 3)

    def test_repeat(self):
        program = (local("n", num(0)), repeat(op("ge", X, num(3)), step("n"), local("x", name("n"))), give(name("n")))
        self.ends(program, 3)
        self.work(program, 1 + 3)
        self.work((repeat(TRUE),), 2)

    def test_for(self):
        for limits, rows in (((1, 3, None), [1, 2, 3]), ((3, 1, -1), [3, 2, 1]), ((1, 0, None), []), ((1, 6, 2), [1, 3, 5]), ((2, 2, 7), [2])):
            start, limit, by = limits
            program = (("for", "i", num(start), num(limit), None if by is None else num(by), (probing(name("i")), put(name("i"), num(99)))),)
            self.tells(program, *[(row,) for row in rows])
            self.work(program, 1 + 2 * len(rows))
        self.tells((("for", "i", num(real(1.0)), num(2), None, (probing(name("i")),)),), (("float", "1.0"),), (("float", "2.0"),))
        self.tells((("for", "i", tell(1), tell(0), tell(2), ()),), (1,), (0,), (2,))
        self.fails((put(A), ("for", "i", num(1), num(2), num(0), ())), "2: 'for' step is zero")
        self.fails((("for", "i", num(1), text("x"), None, ()),), "1: 'for' limit must be a number")

    def test_forin(self):
        iterate = function(when(op("lt", C, name("s")), give(op("add", C, num(1)), text("v"), text("w"))), params="s c")
        program = (each("k v", probing(name("k"), name("v")), put(name("k"), num(99)), values=(iterate, num(2), num(0))),)
        self.tells(program, (1, "v"), (2, "v"))
        # The main function, three calls of the iterator, two rounds, two probes.
        self.work(program, 1 + 3 + 2 + 2)
        self.fails((put(A), each("k", values=(num(1), num(2)))), "2: attempt to call a number value")
        self.fails((each("k", values=(iterate, num(2), num(0), num(3))),), "1: variable got a non-closable value")
        self.tells((each("k", values=(iterate, num(0), num(0), NIL, tell(5), tell(6, 7))),), (5,), (6, 7))
        self.tells((each("k", values=(probe(iterate, num(1), num(0)),)),), (("function", 1), 1, 0))

    def test_breaks(self):
        inner = ("while", TRUE, (step("b"), when(op("eq", B, num(2)), BREAK)))
        self.ends((local("a b", num(0), num(0)), ("while", TRUE, (step("a"), inner, BREAK)), give(A, B)), 1, 2)
        self.ends((local("a", num(0)), repeat(("false",), step("a"), when(op("eq", A, num(3)), BREAK)), give(A)), 3)
        self.ends((local("a"), ("for", "i", num(1), num(9), None, (put(A, name("i")), when(op("eq", A, num(4)), BREAK))), give(A)), 4)
        self.ends((local("a", num(0)), each("k", step("a"), when(op("eq", A, num(2)), BREAK), values=(function(give(num(1))),)), give(A)), 2)

    def test_gotos(self):
        back = (local("a", num(0)), label("top"), step("a"), when(op("lt", A, num(3)), goto("top")), give(A))
        self.ends(back, 3)
        self.work(back, 1 + 2)
        self.ends((local("a", num(0)), goto("on"), step("a", 10), label("on"), step("a"), give(A)), 1)
        on = (local("n", num(0)), ("for", "i", num(1), num(4), None, (when(op("eq", name("i"), num(2)), goto("next")), local("x", name("i")), put(name("n"),
              op("add", name("n"), X)), label("next"))), give(name("n")))
        self.ends(on, 8)
        self.work(on, 1 + 4 + 1)
        out = (local("n", num(0)), ("while", TRUE, (("for", "i", num(1), num(9), None, (step("n"), when(op("eq", name("i"), num(3)), goto("out")))),)),
               label("out"), give(name("n")))
        self.ends(out, 3)

    def test_lines(self):
        bad = op("add", NIL, num(1))
        message = "attempt to perform arithmetic on a nil value"
        self.fails((put(A), put(A), put(A, bad)), "3: " + message)
        self.fails((do(put(A), put(A)), put(A, bad)), "4: " + message)
        self.fails((("while", bad, (put(A),)),), "1: " + message)
        self.fails((put(A), repeat(bad, put(A), put(A))), "2: " + message)
        self.fails((("if", ((("false",), (put(A), put(A))), (bad, ())), None),), "1: " + message)
        self.fails((("for", "i", bad, num(1), None, (put(A),)),), "1: " + message)
        self.fails((put(A), ("localfun", "f", function(put(A), put(A, bad))), ("call", call(F))), "4: " + message)
        # A call behind a function in the same statement is in the line of this statement.
        self.fails((local("f", function(put(A), put(A)), bad),), "1: " + message)
        self.fails((each("k", put(A), values=(function(when(name("c"), put(A, bad)), give(TRUE), params="s c"),)),), "3: " + message)
        self.fails((each("k", put(A), put(A), values=(call(name("setmt"), EMPTY, ("table", (("pair", text("__call"), num(1)),))),)),),
                   "1: attempt to call a number value")
        self.fails((("call", ("method", num(1), "m", ())),), "1: attempt to index a number value")
        self.fails((put(A), give(call(NIL))), "2: attempt to call a nil value")
        self.fails((local("_ENV"), local("y", X)), "2: attempt to index a nil value")
        self.fails((local("_ENV"), do(put(X, num(1)))), "3: attempt to index a nil value")
        self.fails((put(A), put(index(NIL, 1), num(1))), "2: attempt to index a nil value")
        self.fails((("localfun", "f", function(give(call(name("fail"), text("why"))))), give(call(F))), "2: why")

    def test_tail_calls_take_no_room(self):
        down = function(when(op("eq", name("n"), num(0)), give(text("done"))), give(call(F, op("sub", name("n"), num(1)))), params="n")
        self.ends((("localfun", "f", down), give(call(F, num(100)))), "done")
        method = function(when(op("eq", name("n"), num(0)), give(name("s"))), give(("method", name("s"), "m", (op("sub", name("n"), num(1)),))), params="s n")
        self.ends((local("t", ("table", (("pair", text("m"), method),))), give(("method", T, "m", (num(100),)))), ("table", 3))
        for held in (give(("paren", call(F, op("sub", name("n"), num(1))))), give(call(F, op("sub", name("n"), num(1))), NIL)):
            deep = function(when(op("eq", name("n"), num(0)), give()), held, params="n")
            # The bottom, the catcher and the main function are frames, too; the line is the return's.
            self.fails((("localfun", "f", deep), give(call(F, num(100)))), "4: stack overflow")


class VariableTest(RunsTest):
    def test_shared(self):
        make = function(local("n", num(0)), give(function(step("n"), give(name("n"))), function(give(name("n")))))
        self.ends((local("a b", call(make)), ("call", call(A)), ("call", call(A)), give(call(B), call(A))), 2, 3)

    def test_new_in_each_round(self):
        keep = put(("index", T, op("add", ("unary", "len", T), num(1))), function(step("x"), give(X)))
        called = give(call(index(T, 1)), call(index(T, 1)), call(index(T, 2)))
        start = (local("t", EMPTY), local("n", num(0)))
        more = op("lt", name("n"), num(2))
        self.ends(start + (("while", more, (step("n"), local("x", name("n")), keep)), called), 2, 3, 3)
        self.ends(start + (repeat(op("ge", X, num(2)), step("n"), local("x", name("n")), keep), called), 2, 3, 3)
        self.ends(start + (("for", "x", num(1), num(2), None, (keep,)), called), 2, 3, 3)
        numbers = function(when(op("lt", C, num(2)), give(op("add", C, num(1)))), params="s c")
        self.ends(start + (each("x", keep, values=(numbers, NIL, num(0))), called), 2, 3, 3)
        self.ends(start + (label("top"), step("n"), local("x", name("n")), keep, when(more, goto("top")), called), 2, 3, 3)
        self.ends(start + (("while", more, (step("n"), local("x", name("n")), keep, goto("on"), label("on"))), called), 2, 3, 3)
        self.ends(start + (("while", TRUE, (local("x", num(5)), keep, BREAK)), local("x", num(8)), keep, called), 6, 7, 9)
        self.ends(start + (("while", TRUE, (do(local("x", num(5)), keep, goto("out")),)), label("out"), local("x", num(8)), keep, called), 6, 7, 9)
        self.ends(start + (do(local("x", num(1)), keep), do(local("x", num(5)), keep), called), 2, 3, 6)

    def test_the_loop_goes_on_by_its_own_count(self):
        self.ends((local("n", num(0)), ("for", "i", num(1), num(3), None, (local("f", function(put(name("i"), num(9)))), ("call", call(F)), step("n"))),
                   give(name("n"))), 3)

    def test_localfun(self):
        body = function(when(op("eq", name("n"), num(0)), give(num(1))), give(op("mul", name("n"), call(F, op("sub", name("n"), num(1))))), params="n")
        self.ends((("localfun", "f", body), give(call(F, num(5)))), 120)
        self.ends((local("f", num(1)), local("f", function(give(F))), give(call(F))), 1)

    def test_the_same_name(self):
        self.ends((local("a", num(1)), local("a", op("add", A, num(1))), do(local("a", num(9))), give(A)), 2)
        self.ends((local("a a", num(1), num(2)), give(A)), 2)
        self.ends((give(call(function(give(name("p")), params="p p"), num(1), num(2))),), 2)

    def test_env(self):
        self.ends((local("_ENV", ("table", (("pair", text("x"), num(4)),))), give(X)), 4)
        self.ends((local("e", ("table", (("pair", text("x"), num(4)),))), local("f", function(give(X), params="_ENV")), give(call(F, name("e")))), 4)
        inner = function(local("_ENV", name("p")), give(call(function(put(X, num(1)), give(X)))), params="p")
        self.ends((local("f", inner), local("e", EMPTY), give(call(F, name("e")), index(name("e"), "x"))), 1, 1)

    def test_upvalues_through_functions(self):
        program = (local("x", num(1)), local("f", function(give(function(give(function(step("x"), give(X))))))), local("g", call(call(F))),
                   ("call", call(name("g"))), give(call(name("g")), X))
        self.ends(program, 3, 3)


class ClosingTest(RunsTest):
    def test_at_the_end_of_a_block(self):
        program = (do(closed("a", obj()), closed("b", obj()), probing(num(1))), probing(num(2)))
        self.tells(program, (1,), ("close", ("table", 4), None), ("close", ("table", 3), None), (2,))

    def test_nil_and_false(self):
        self.tells((do(closed("a", NIL), closed("b", ("false",))), probing(num(1))), (1,))
        self.fails((put(A), do(closed("a", num(1)))), "3: variable got a non-closable value")

    def test_each_way_out(self):
        close = ("close", ("table", 3), None)
        for leave in (BREAK, goto("out")):
            self.tells((("while", TRUE, (closed("a", obj()), do(probing(num(1)), leave))), label("out"), probing(num(2))), (1,), close, (2,))
        self.tells((("localfun", "f", function(closed("a", obj()), give(tell(1)))), probing(call(F))), (1,), close, (1,))
        self.tells((("localfun", "f", function(closed("a", obj()))), probing(call(F))), close, ())
        self.tells((repeat(tell(1), closed("a", obj())), probing(num(2))), (1,), close, (2,))
        failing = function(closed("a", obj()), ("call", call(name("fail"), text("why"))))
        self.tells((probing(pcall(failing)),), ("close", ("table", 3), "3: why"), (False, "3: why"))

    def test_in_each_round(self):
        closing = closed("a", obj())
        self.tells((("for", "i", num(1), num(2), None, (closing, probing(name("i")))),), (1,), ("close", ("table", 3), None), (2,), ("close", ("table", 4), None))
        again = (local("n", num(0)), label("top"), closing, step("n"), when(op("lt", name("n"), num(2)), goto("top")), probing(num(9)))
        self.tells(again, ("close", ("table", 3), None), (9,), ("close", ("table", 4), None))
        # Behind a closer the goto is counted.
        self.assertEqual([row[2] for row in self.run_both(again)[1]], [3, 6, 7])

    def test_of_a_forin(self):
        iterate = function(when(op("lt", C, num(2)), give(op("add", C, num(1)))), params="s c")
        close = ("close", ("table", 3), None)
        for leave, rows in ((probing(num(0)), ((1,), (0,), (2,), (0,), close, (9,))), (BREAK, ((1,), close, (9,))), (goto("out"), ((1,), close, (9,)))):
            self.tells((each("k", probing(name("k")), leave, values=(iterate, NIL, num(0), obj())), label("out"), probing(num(9))), *rows)
        inner = each("k", closed("b", obj()), probing(name("k")), BREAK, values=(iterate, NIL, num(0), obj()))
        self.tells((inner, probing(num(9))), (1,), ("close", ("table", 4), None), close, (9,))
        returning = ("localfun", "f", function(each("k", give(tell(5)), values=(iterate, NIL, num(0), obj()))))
        self.tells((returning, probing(call(F))), (5,), close, (5,))

    def test_lines(self):
        why = closer((("call", call(name("fail"), text("x"))),))
        # A closer fails in its own line; the line in which it is called is told where it can not be called.
        bad = call(name("setmt"), EMPTY, ("table", (("pair", text("__close"), num(1)),)))
        message = "attempt to call a number value"
        self.fails((put(A), do(closed("a", bad), put(B))), "2: " + message)
        self.fails((("while", TRUE, (closed("a", bad), put(B))),), "1: " + message)
        self.fails((("while", TRUE, (closed("a", bad), BREAK)),), "3: " + message)
        self.fails((do(closed("a", bad), goto("on")), label("on")), "3: " + message)
        self.fails((repeat(TRUE, closed("a", bad), put(B)),), "1: " + message)
        self.fails((("if", ((("false",), ()), (TRUE, (put(A), closed("a", bad)))), None),), "1: " + message)
        self.fails((("if", ((("false",), (put(A),)),), (closed("a", bad), put(B))),), "1: " + message)
        self.fails((("for", "i", num(1), num(2), None, (closed("a", bad), put(B))),), "1: " + message)
        self.fails((put(A), each("k", put(B), values=(function(), NIL, NIL, bad))), "2: " + message)
        self.fails((each("k", put(B), BREAK, values=(function(give(TRUE)), NIL, NIL, bad)),), "4: " + message)
        self.fails((put(A), local("f", function(put(A), closed("a", bad), put(B))), ("call", call(F))), "2: " + message)
        self.fails((local("f", function(closed("a", bad), give(num(1)))), ("call", call(F))), "3: " + message)
        self.fails((closed("a", bad), put(B)), "0: " + message)
        self.fails((do(closed("a", why)), put(A)), "3: x")

    def test_errors_of_closers(self):
        fails = closer((probing(name("e")), ("call", call(name("fail"), text("next")))))
        program = (("localfun", "f", function(closed("a", obj()), closed("b", fails), ("call", call(name("fail"), text("first"))))), probing(pcall(F)))
        self.tells(program, ("6: first",), ("close", ("table", 3), "5: next"), (False, "5: next"))
        self.assertEqual(self.run_both(program)[0], [True])

    def test_variables_keep_their_values_for_functions(self):
        program = (local("f"), do(local("x", num(1)), closed("a", obj()), put(F, function(step("x"), give(X)))), give(call(F), call(F)))
        self.ends(program, 2, 3)


class LiveTest(RunsTest):
    """What is live is told as t3 and so on: the tables 0 to 2 are those of the model."""

    def test_variables_in_scope(self):
        self.lives((probing(), local("a b", EMPTY, EMPTY), probing(), do(local("c", EMPTY), probing()), probing(), put(A), probing()),
                   "", "t3 t4", "t3 t4 t5", "t3 t4", "t4")
        self.lives((local("a", EMPTY), local("a", probe(EMPTY)), probing()), "t3", "t3 t4")
        self.lives((local("f", function(probing(), params="p q")), ("call", call(F, EMPTY, EMPTY, EMPTY))), "f1 t3 t4")
        self.lives((local("f", function(probing(), params="p", dots=True)), ("call", call(F, EMPTY, EMPTY, EMPTY))), "f1 t3 t4 t5")

    def test_what_a_call_hands_over(self):
        self.lives((probing(EMPTY), probing(EMPTY, probe(EMPTY))), "", "t4", "")
        self.lives((local("t", ("table", (("pair", text("m"), name("probe")),))), ("call", ("method", T, "m", (EMPTY, probe())))), "t3 t4", "t3")

    def test_operands_and_keys(self):
        self.lives((local("x", op("eq", EMPTY, probe())),), "t3")
        self.lives((local("x", op("add", obj(), obj())),), "")
        self.lives((local("x", op("add", obj(), op("add", obj(), obj()))),), "t3", "")
        self.lives((local("x", ("index", obj(), probe())),), "t3", "")
        self.lives((local("x", ("unary", "neg", obj())),), "")
        self.lives((local("x", ("unary", "not", obj())), probing()), "")
        self.lives((local("x", ("and", EMPTY, probe())), local("y", ("or", ("and", EMPTY, NIL), probe()))), "", "")
        self.lives((local("x", op("eq", ("or", EMPTY, NIL), probe())),), "t3")
        self.lives((local("x", ("paren", probe(EMPTY, EMPTY))), probing()), "", "t3")

    def test_a_method_keeps_its_value_while_its_field_is_read(self):
        self.lives((local("x", op("eq", EMPTY, ("method", obj(), "m", ()))),), "t3 t4", word="index")

    def test_lists(self):
        # Surplus values are held until the list is whole.
        self.lives((local("a", EMPTY, EMPTY, probe()), probing()), "t3 t4", "t3")
        self.lives((give(EMPTY, EMPTY, probe()),), "t3 t4")
        self.lives((each("k", probing(), BREAK, values=(name("probe"), EMPTY, EMPTY, NIL, EMPTY, probe())),), "t3 t4 t5", "t3 t4", "t3")

    def test_sets(self):
        o = obj()
        # Parts and values are held until all are stored, but no surplus.
        self.lives((("set", (("index", o, EMPTY), ("index", o, num(1))), (EMPTY, num(2), EMPTY)),), "t3 t4 t5 t6", "t3 t4 t5 t6")
        self.lives((("set", (("index", o, EMPTY),), (probe(),)),), "t3 t4", "t3 t4")
        self.lives((("set", (X, ("index", o, num(1))), (EMPTY, NIL)), probing()), "t0 t3 t4", "")

    def test_tables(self):
        items = (("item", EMPTY), ("pair", EMPTY, probe()), ("item", probe()), ("item", EMPTY), ("item", probe(EMPTY)))
        self.lives((local("t", ("table", items)), probing()), "t3 t4 t5", "t3 t4", "t3 t4 t6", "t3")
        many = tuple(("item", EMPTY) for _ in range(50))
        self.lives((local("t", ("table", many + (("item", probe()),))),), "t3")

    def test_loops(self):
        hidden = (name("probe"), EMPTY, EMPTY)
        self.lives((("for", "i", num(1), num(1), None, (local("x", EMPTY), probing())), probing()), "t3", "")
        self.lives((local("n", num(0)), repeat(probe(TRUE), local("x", EMPTY)), probing()), "t3", "")
        body = (local("x", EMPTY), probing(), BREAK)
        self.lives((each("k", *body, values=hidden), probing()), "t3 t4", "t3 t5", "")

    def test_closers(self):
        # A block's variables end ahead of its closers; what is still pending is told apart.
        self.lives((local("a", EMPTY), do(local("b", EMPTY), closed("c", obj()))), "t3")
        self.lives((do(closed("c", obj()), closed("d", obj())),), "t3", "")
        self.lives((("localfun", "f", function(local("b", EMPTY), closed("c", obj()), give(EMPTY))), ("call", call(F))), "f1 t5")
        self.lives((("while", TRUE, (local("a", EMPTY), closed("b", obj()), do(local("c", EMPTY), closed("d", obj()), BREAK))),), "t3 t4", "")
        self.lives((repeat(probe(EMPTY), closed("a", obj())),), "t3", "")

    def test_each_scope_that_is_left_ends_whole(self):
        inner = ("while", TRUE, (local("d", EMPTY), closed("e", obj()), goto("out")))
        outer = ("while", TRUE, (local("b", EMPTY), closed("c", obj()), inner))
        self.lives((local("a", EMPTY), outer, label("out"), probing()), "t3 t4 t5", "t3", "t3")
        hidden = each("k", closed("c", obj()), BREAK, values=(function(give(EMPTY)), EMPTY, NIL, obj()))
        self.lives((hidden, probing()), "f1 t3 t4 t5", "", "")

    def test_tail_calls(self):
        self.lives((("localfun", "f", function(local("a", EMPTY), give(probe(EMPTY)))), ("call", call(F))), "f1 t3")
        self.lives((("localfun", "g", function(probing(), params="p")), ("localfun", "f", function(local("a", EMPTY), give(call(name("g"), EMPTY)))),
                    ("call", call(F))), "f1 t4")


class ManyTest(RunsTest):
    def test_many_programs(self):
        """The end, the log with all that is live, and the work are the same as a walker's."""
        kinds = {}
        for seed, program in made_programs(150):
            codes = compile_program(program)
            for is_soft, work in ((False, 100), (True, 130)):
                found = run_code(codes, work, is_soft)
                self.assertEqual(found, run_program(program, work, is_soft), (seed, program))
                kinds[str(found[0][0])] = kinds.get(str(found[0][0]), 0) + 1
        self.assertTrue(all(kinds[word] > 20 for word in ("True", "False", "out of work")), kinds)


if __name__ == "__main__":
    unittest.main()
