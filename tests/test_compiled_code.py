"""[68], [69]: what compile_program returns, by its form; [17] what it refuses."""

import unittest

from builders import (NIL, call, count, do, doing, each, function, give, goto, label, local, loop, name, names, put, real, refusal, repeat,
                      when)
from model_judge import code_fault
from program_maker import made_programs
from test_definitions import Maker
from upvalues.code import Code
from upvalues.compiler import compile_program
from upvalues.errors import InvalidProgram, LuaError
from upvalues.numbers import Float
from upvalues.programs import check_program, statement_paths
from upvalues.scopes import declarations, upvalue_places

A, B, C = names("a", "b", "c")
ONE = ("number", 1)
OPS = "add sub mul div floor mod band bor bxor shl shr concat eq ne lt le gt ge".split()

EXPRESSIONS = (
    [NIL, ("true",), ("false",), ONE, ("number", real(0.5)), ("number", Float(1, "nan", 0)), ("string", ""), ("string", "x" * 200), ("dots",), A,
     ("name", "field"), ("name", "_ENV"), function(), function(give(A), params="p q", dots=True), ("index", A, ONE), call(A), call(A, ONE, ("dots",)),
     call(A, call(B)), ("method", A, "m", ()), ("method", A, "m", (ONE, call(B))), ("and", A, B), ("or", A, B), ("paren", A), ("paren", call(A)),
     ("paren", ("dots",)), ("table", ()), ("table", (("item", ONE), ("pair", ("string", "k"), A), ("item", call(A)))),
     ("table", (("item", ("dots",)), ("pair", A, B)))]
    + [("op", word, A, B) for word in OPS]
    + [("unary", word, A) for word in ("neg", "not", "len", "bnot")]
)

LONG_TABLES = [
    (("item", ONE),) * 300, (("pair", ONE, ONE),) * 120, (("item", ONE),) * 49, (("item", ONE),) * 50, (("item", ONE),) * 51, (("item", ONE),) * 100,
    (("item", ONE),) * 50 + (("item", ("dots",)),), (("item", ONE),) * 49 + (("item", ("dots",)),), (("item", ONE),) * 100 + (("pair", ONE, ONE),),
    (("item", ONE), ("pair", ONE, A)) * 150,
]
STATEMENTS = [
    local("x"), local("x y", ONE), local("x", ONE, call(A), ONE), local("x y z", call(A)), local("x y", A, ("dots",)), local("x", marks=("const",)),
    local("x y", A, B, marks=("close", "const")), local("x", call(A), call(B), call(C)),
    put(A, ONE), put(name("field"), ONE), put(("index", A, B), ONE), ("set", (A, name("f"), ("index", B, C), name("_ENV")), (ONE, call(A))),
    ("set", (A,), (ONE, ONE, call(A))), do(), do(local("x")), do(local("x", A, marks=("close",))), ("while", A, ()), loop(("break",)),
    loop(local("x", A, marks=("close",)), ("break",)), repeat(A), repeat(name("x"), local("x", function(give(name("x"))))),
    when(), when(put(A), other=()), ("if", ((A, ()), (B, (put(A),)), (C, ())), (put(B),)), count("i"), ("for", "i", A, B, C, ()),
    count("i", put(A, function(give(name("i")))), ("break",)), each("k"), each("k v w", ("break",), values=(A, B, C, A, B)),
    each("k", put(A, function(give(name("k")))), values=(call(A),)), each("k", local("x", A, marks=("close",)), goto("end")),
    ("localfun", "f", function(give(name("f")))), ("localfun", "f", function()), ("call", call(A, ONE)), ("call", ("method", A, "m", (ONE,))),
    label("l"), do(label("l"), goto("l")), goto("end"), do(goto("l"), label("l"), label("m")),
    do(label("l"), local("x", A, marks=("close",)), when(goto("l"))), do(local("x", function(give(name("x")))), goto("l"), put(A), label("l")),
    do(give()), do(give(A)), do(give(call(A))), do(give(("method", A, "m", ()))), do(give(A, call(B))), do(give(("dots",))), do(give(("paren", call(A)))),
    do(local("x", A, marks=("close",)), give(call(A))),
]


def whole(*statements):
    """A program with the variables a, b and c, and the label end."""
    return (local("a b c"),) + statements + (label("end"),)


def described(program):
    """For each Code its params, its dots and its upvalues."""
    return [(code.params, code.has_dots, code.upvalues) for code in compile_program(program)]


class FormTest(unittest.TestCase):
    def check(self, program):
        codes = compile_program(program)
        self.assertIsInstance(codes, list)
        self.assertEqual(len(codes), len(upvalue_places(program)))
        self.assertIsNone(code_fault(codes), program)
        lines = [line for code in codes for line in code.lines]
        self.assertLessEqual(set(lines), set(range(len(statement_paths(program)) + 1)))
        for code in codes:
            self.assertTrue(all(isinstance(part, list) for part in (code.upvalues, code.instructions, code.lines, code.lives)))
            self.assertEqual({len(code.instructions)}, {len(code.lines), len(code.lives)})
            self.assertTrue(all(0 <= live <= code.size for live in code.lives))
            self.assertTrue(all(type(part) is tuple for part in code.instructions))

    def test_the_empty_program(self):
        self.check(())
        self.assertEqual(described(()), [(0, True, [("up", 0)])])

    def test_each_expression(self):
        for one in EXPRESSIONS:
            for statement in (local("x", one), local("x y z", one), local("x", ONE, one), put(A, one), put(("index", A, one), one), give(one), give(A, one),
                              doing(one), doing(A, one), ("while", one, ()), repeat(one), ("if", ((one, ()),), None), ("for", "i", one, one, one, ()),
                              each("k", values=(one,)), each("k", values=(A, B, C, one)), local("x", ("table", (("item", one),))),
                              local("x", ("table", (("pair", one, one),))), local("x", ("and", one, one)), local("x", ("op", "add", one, one)),
                              local("x", ("unary", "neg", one)), local("x", ("paren", one)), local("x", ("index", one, one)), doing(("method", one, "m", (one,)))):
                is_last = statement[0] == "return"
                self.check((local("a b c"), statement) if is_last else whole(statement))

    def test_long_tables(self):
        for items in LONG_TABLES:
            self.check((local("x", ("table", items)),))
            self.check((local("a", ONE, ("table", items)),))

    def test_each_statement(self):
        for one in STATEMENTS:
            self.check(whole(one))
            self.check(whole(one, local("d", A), put(B, function(give(name("d"))))))
            for around in (do(one), loop(one), repeat(A, one), when(one, other=(one,)), count("i", one), each("k", one), loop(do(one), ("break",))):
                self.check(whole(around))
                self.check(whole(each("o", local("p", A, marks=("close",)), around)))
            inner = function(one, label("end"), params="p", dots=True)
            self.check(whole(put(A, inner)))
            self.check(whole(("localfun", "f", inner)))

    def test_many_programs(self):
        for _, program in made_programs(120):
            self.check(program)
        good = 0
        for seed in range(700):
            program = Maker(seed).block(0, False)
            if refusal(program, check_program) is None:
                good += 1
                self.check(program)
        self.assertGreater(good, 200)

    def test_lines_up_to_400(self):
        program = (do(*[put(A)] * 199),) + (put(A),) * 200
        self.check(program)
        self.assertEqual(set(compile_program(program)[0].lines), set(range(401)) - {1})

    def test_very_many_registers(self):
        deep = ONE
        for _ in range(27):
            deep = call(A, *[ONE] * 49, deep)
        targets = tuple(("index", A, B) for _ in range(50))
        program = (local(" ".join(f"v{at}" for at in range(50))), local("a b c d e f g h i j"), ("set", targets, (ONE,) * 49 + (deep,)))
        self.check(program)
        self.assertGreater(compile_program(program)[0].size, 1500)
        table = ONE
        for _ in range(13):
            table = ("table", (("item", ONE),) * 49 + (("pair", ONE, table),))
        self.check((local("x", table),))
        method = A
        for _ in range(28):
            method = ("method", A, "m", (ONE,) * 49 + (method,))
        self.check((give(method),))

    def test_very_deep_blocks(self):
        block = ()
        for _ in range(28):
            block = (each("k", *block, values=(A,)),)
        self.check(block)
        block = (give(A),)
        for _ in range(14):
            block = (give(function(*block)),)
        self.check(block)
        self.assertEqual(len(compile_program(block)), 15)


class PartsTest(unittest.TestCase):
    def test_order_params_and_dots(self):
        program = (
            local("x", function(give(function(params="p")), params="p q", dots=True)),
            ("set", (("index", function(params="a b c"), function(dots=True)), name("y")), (function(params="a b c d"),)),
            ("if", ((function(params="a", dots=True), (give(function()),)),), (give(function(params="a b")),)),
        )
        self.assertEqual([row[:2] for row in described(program)],
                         [(0, True), (2, True), (1, False), (3, False), (0, True), (4, False), (1, True), (0, False), (2, False)])

    def test_a_repeat_is_read_block_first(self):
        program = (repeat(function(params="a"), put(name("x"), function(params="a b"))), local("y", function(params="a b c")))
        self.assertEqual([row[0] for row in described(program)], [0, 2, 1, 3])

    def test_upvalues_by_register(self):
        program = (local("a b"), give(function(give(B, A, B))))
        self.assertEqual(described(program)[1][2], [("reg", 1), ("reg", 0)])

    def test_upvalues_by_upvalue(self):
        inner = function(give(B, name("p"), A))
        program = (local("a b"), give(function(give(inner), params="p")))
        # The one between has b and a for the inner one.
        self.assertEqual([row[2] for row in described(program)], [[("up", 0)], [("reg", 1), ("reg", 0)], [("up", 0), ("reg", 0), ("up", 1)]])

    def test_fields(self):
        self.assertEqual([row[2] for row in described((give(function(give(A))),))], [[("up", 0)], [("up", 0)]])
        self.assertEqual([row[2] for row in described((local("x"), give(function(give(name("x"), A)))))], [[("up", 0)], [("reg", 0), ("up", 0)]])
        self.assertEqual([row[2] for row in described((local("x _ENV"), give(function(give(A)))))], [[("up", 0)], [("reg", 1)]])
        self.assertEqual([row[2] for row in described((give(function(give(function(put(A))))),))], [[("up", 0)], [("up", 0)], [("up", 0)]])

    def test_params_are_the_first_registers(self):
        program = (give(function(local("x"), give(function(give(name("x"), name("q"), name("p")))), params="p q")),)
        self.assertEqual(described(program)[2][2], [("reg", 2), ("reg", 1), ("reg", 0)])
        self.assertEqual(described((give(function(give(function(give(name("p")))), params="p p")),))[2][2], [("reg", 1)])

    def test_a_register_of_its_own(self):
        self.assertEqual(described((local("a"), local("a"), give(function(give(A)))))[1][2], [("reg", 1)])
        self.assertEqual(described((local("a b a"), give(function(give(A, B)))))[1][2], [("reg", 2), ("reg", 1)])
        # A block's registers are free again behind it.
        self.assertEqual(described((local("a"), do(local("x y z")), local("b"), give(function(give(B)))))[1][2], [("reg", 1)])
        self.assertEqual(described((local("a", ONE, ONE, ONE), local("b"), give(function(give(B)))))[1][2], [("reg", 1)])

    def test_loops_hide_registers_below_their_variables(self):
        body = put(B, function(give(A)))
        self.assertEqual(described((local("x"), count("a", body)))[1][2][0], ("reg", 4))
        self.assertEqual(described((local("x"), each("b a", put(name("x"), function(give(A))))))[1][2], [("reg", 6)])
        self.assertEqual(described((loop(local("a"), body),))[1][2][0], ("reg", 0))
        self.assertEqual(described((count("x"), local("a"), body))[1][2][0], ("reg", 0))

    def test_a_localfun_captures_itself(self):
        self.assertEqual(described((local("x"), ("localfun", "f", function(give(name("f"))))))[1][2], [("reg", 1)])

    def test_upvalues_of_the_same_number_and_order_as_told(self):
        for _, program in made_programs(60, 5000):
            codes = compile_program(program)
            self.assertEqual([len(code.upvalues) for code in codes], [len(row) for row in upvalue_places(program)])

    def test_closes_stand_only_where_something_ends(self):
        def closes(*block):
            return [part for code in compile_program(block) for part in code.instructions if part[0] == "close"]

        shared = put(B, function(give(A)))
        for block in (do(local("a")), loop(local("a")), repeat(A, local("a")), count("a", local("b")), when(local("a")),
                      loop(local("a"), ("break",)), do(label("l"), local("a"), when(goto("l"))), give(function(local("a", A, marks=("close",))))):
            self.assertEqual(closes(block), [], block)
        self.assertEqual(closes(local("x"), do(local("a"), shared)), [("close", 1)])
        self.assertEqual(closes(count("a", shared)), [("close", 3)])
        self.assertEqual(closes(each("k")), [("close", 0)])
        self.assertEqual(closes(each("a", shared)), [("close", 4), ("close", 0)])
        self.assertEqual(closes(do(local("x", A, marks=("close",)))), [("close", 0)])
        self.assertEqual(closes(local("a"), shared), [])

    def test_captured_variables_are_those_declared(self):
        program = (local("a"), do(local("a"), put(B, function(give(A)))))
        self.assertEqual([row[4] for row in declarations(program)], [False, True])
        self.assertEqual(described(program)[1][2], [("reg", 1)])


class ReturnedTest(unittest.TestCase):
    PROGRAM = (local("x", ("number", real(0.5))), put(A, function(give(name("x")))), give(A))

    def test_new_each_time(self):
        first = compile_program(self.PROGRAM)
        for code in first:
            for part in (code.upvalues, code.instructions, code.lines, code.lives):
                part.append("changed")
        first.append(None)
        second = compile_program(self.PROGRAM)
        self.assertEqual(len(second), 2)
        self.assertIsNone(code_fault(second))
        self.assertNotIn("changed", [thing for code in second for part in code.all_parts()[3:] for thing in part])

    def test_the_same_each_time(self):
        self.assertEqual([code.all_parts() for code in compile_program(self.PROGRAM)], [code.all_parts() for code in compile_program(self.PROGRAM)])

    def test_by_name(self):
        self.assertTrue(all(isinstance(code, Code) for code in compile_program(program=self.PROGRAM)))

    def test_the_program_is_left_as_it_was(self):
        number = real(0.5)
        program = (local("x", ("number", number)), give(function(give(name("x")))))
        before = repr(program)
        compile_program(program)
        self.assertEqual([repr(program), number.sign, number.top, number.power], [before, 1, 1, -1])


class RefusedTest(unittest.TestCase):
    def test_what_is_no_program(self):
        for thing in (None, 5, True, "x", b"x", [], {}, set(), 1.5, object(), Float(1, 1, 0), Code(0, False, 0, [], [], [], []), [local("x")], ({},)):
            path = (0,) if isinstance(thing, tuple) else ()
            self.assertEqual(refusal(thing, compile_program), (path, "form"), repr(thing))

    def test_words_and_paths(self):
        rows = (
            ((("break",),), (0,), "break"),
            ((goto("x"),), (0,), "goto"),
            ((goto("x"), local("a"), label("x"), put(A)), (0,), "scope"),
            ((label("x"), do(label("x"))), (1, 1, 0), "label"),
            ((give(), put(A)), (0,), "return"),
            ((local("a b", marks=("close", "close")),), (0,), "close"),
            ((local("a", marks=("const",)), put(A)), (1, 1, 0), "const"),
            ((give(function(give(("dots",)))),), (0, 1, 0, 3, 0, 1, 0), "dots"),
            ((put(A, ("number", 2 ** 63)),), (0, 2, 0), "form"),
            ((put(A, ("number", True)),), (0, 2, 0), "form"),
            ((local("a"),) * 61, (60,), "bounds"),
            ((put(A),) * 401, (400,), "bounds"),
        )
        for program, path, word in rows:
            self.assertEqual(refusal(program, compile_program), (path, word))

    def test_the_error(self):
        with self.assertRaises(InvalidProgram) as found:
            compile_program((("break",),))
        self.assertIsInstance(found.exception, LuaError)

    def test_the_same_as_check_program(self):
        words = set()
        for seed in range(2000, 3500):
            program = Maker(seed).block(0, False)
            found = refusal(program, check_program)
            self.assertEqual(refusal(program, compile_program), found)
            if found is not None:
                words.add(found[1])
        self.assertEqual(sorted(words - {"bounds"}), ["break", "close", "const", "dots", "goto", "label", "scope"])


if __name__ == "__main__":
    unittest.main()
