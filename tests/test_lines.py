"""[18] lines and paths, [21] tail calls."""

import unittest

from builders import BREAK, NIL, call, count, do, doing, each, function, give, goto, label, local, loop, name, put, repeat, when
from upvalues.programs import statement_paths, tail_returns

CALL = call(NIL)
METHOD = ("method", NIL, "m", ())


def at(program, path):
    for place in path:
        program = program[place]
    return program


class LinesTest(unittest.TestCase):
    def test_the_example(self):
        program = (local("x", function(give(name("x")))), ("call", ("call", name("x"), ())))
        self.assertEqual(statement_paths(program), [(0,), (0, 3, 0, 3, 0), (1,)])

    def test_none(self):
        self.assertEqual(statement_paths(()), [])

    def test_blocks(self):
        program = (
            do(do(), do()),
            loop(do()),
            repeat(function(do()), do()),
            ("if", ((function(do()), (do(),)), (NIL, (do(),))), (do(),)),
            ("for", "x", function(do()), function(do()), function(do()), (do(),)),
            ("forin", ("x",), (function(do()), function(do())), (do(),)),
            ("localfun", "f", function(do())),
            ("set", (("index", function(do()), function(do())), name("a")), (function(do()),)),
            give(function(do())),
        )
        self.assertEqual(statement_paths(program), [
            (0,), (0, 1, 0), (0, 1, 1), (1,), (1, 2, 0), (2,), (2, 1, 0), (2, 2, 3, 0), (3,), (3, 1, 0, 0, 3, 0), (3, 1, 0, 1, 0),
            (3, 1, 1, 1, 0), (3, 2, 0), (4,), (4, 2, 3, 0), (4, 3, 3, 0), (4, 4, 3, 0), (4, 5, 0), (5,), (5, 2, 0, 3, 0),
            (5, 2, 1, 3, 0), (5, 3, 0), (6,), (6, 2, 3, 0), (7,), (7, 1, 0, 1, 3, 0), (7, 1, 0, 2, 3, 0), (7, 2, 0, 3, 0), (8,),
            (8, 1, 0, 3, 0),
        ])

    def test_functions_in_expressions(self):
        one = function(do())
        rows = [
            (("index", one, one), [(1,), (2,)]), (call(one, one, one), [(1,), (2, 0), (2, 1)]),
            (("method", one, "m", (one, one)), [(1,), (3, 0), (3, 1)]), (("and", one, one), [(1,), (2,)]),
            (("or", one, one), [(1,), (2,)]), (("paren", one), [(1,)]), (("op", "add", one, one), [(2,), (3,)]),
            (("unary", "neg", one), [(2,)]),
            (("table", (("item", one), ("pair", one, one), ("item", one))), [(1, 0, 1), (1, 1, 1), (1, 1, 2), (1, 2, 1)]),
        ]
        for expression, places in rows:
            found = [(0,)] + [(0, 1, 0) + place + (3, 0) for place in places]
            self.assertEqual(statement_paths((give(expression),)), found)
        self.assertEqual(statement_paths((give(function(give(one))),)), [(0,), (0, 1, 0, 3, 0), (0, 1, 0, 3, 0, 1, 0, 3, 0)])

    def test_in_the_order_of_reading(self):
        program = (loop(do(label("a")), BREAK), when(do(goto("b")), do(), other=(do(),)), label("b"), give(function(function_body())))
        paths = statement_paths(program)
        self.assertEqual(paths, sorted(paths))
        self.assertEqual(len(set(paths)), len(paths))
        for path in paths:
            self.assertIn(at(program, path)[0], ("while", "do", "label", "break", "if", "goto", "return", "local"))

    def test_new_each_time(self):
        program = (do(), give(CALL))
        for ask in (statement_paths, tail_returns):
            told = ask(program)
            expected = list(told)
            told.clear()
            self.assertEqual(ask(program), expected)
            self.assertIsInstance(told, list)
            self.assertTrue(all(isinstance(path, tuple) for path in expected))


def function_body():
    return local("x", function(do(), give()))


class TailReturnsTest(unittest.TestCase):
    def check(self, program, *paths):
        self.assertEqual(tail_returns(program), list(paths))

    def test_one_call_alone(self):
        self.check((give(CALL),), (0,))
        self.check((give(METHOD),), (0,))
        self.check((give(call(name("f"), CALL, CALL)),), (0,))
        self.check(())
        for values in [(), (NIL,), (("paren", CALL),), (("paren", METHOD),), (CALL, CALL), (NIL, CALL), (CALL, NIL), (("dots",),),
                       (("index", CALL, CALL),), (("and", NIL, CALL),), (("or", NIL, CALL),), (("op", "add", CALL, CALL),),
                       (("table", (("item", CALL),)),), (name("f"),), (("unary", "not", CALL),)]:
            self.check((give(*values),))

    def test_blocks(self):
        tail = give(CALL)
        self.check((do(tail),), (0, 1, 0))
        self.check((loop(tail), repeat(NIL, tail), count("x", tail), when(tail, other=(tail,))), (0, 2, 0), (1, 1, 0), (2, 5, 0),
                   (3, 1, 0, 1, 0), (3, 2, 0))

    def test_in_reading_order(self):
        inner = function(give(METHOD))
        self.check((give(call(inner, inner)),), (0,), (0, 1, 0, 1, 3, 0), (0, 1, 0, 2, 0, 3, 0))
        self.check((give(inner, inner),), (0, 1, 0, 3, 0), (0, 1, 1, 3, 0))
        self.check((local("f", inner), ("localfun", "g", inner), give(CALL)), (0, 3, 0, 3, 0), (1, 2, 3, 0), (2,))

    def test_variables_to_be_closed(self):
        closed = local("x", marks=("close",))
        tail = give(CALL)
        self.check((closed, tail))
        self.check((local("x y z", marks=("const", "close", None)), tail))
        self.check((closed, do(loop(when(tail))), tail))
        self.check((do(closed), tail), (1,))
        self.check((do(tail), closed, tail), (0, 1, 0))
        self.check((do(closed, do(tail)), do(tail), tail), (1, 1, 0), (2,))
        self.check((local("x", marks=("const",)), local("y"), tail), (2,))
        self.check((loop(tail), loop(closed), loop(tail)), (0, 2, 0), (2, 2, 0))
        self.check((repeat(function(tail), closed), tail), (0, 2, 3, 0), (1,))
        self.check((repeat(function(tail), closed, tail), tail), (0, 2, 3, 0), (1,))
        self.check((closed, local("x"), tail))
        self.check((("if", ((NIL, (closed, tail)), (NIL, (tail,))), (closed,)), tail), (0, 1, 1, 1, 0), (1,))

    def test_functions_beside_variables_to_be_closed(self):
        closed = local("x", marks=("close",))
        tail = give(CALL)
        self.check((closed, give(function(tail))), (1, 1, 0, 3, 0))
        self.check((closed, give(call(function(tail)))), (1, 1, 0, 1, 3, 0))
        self.check((give(call(function(closed, tail))),), (0,))
        self.check((local("x", function(tail), marks=("close",)), tail), (0, 3, 0, 3, 0))
        self.check((closed, give(function(give(function(tail), CALL), params="x"))), (1, 1, 0, 3, 0, 1, 0, 3, 0))

    def test_forin(self):
        tail = give(CALL)
        self.check((each("x", tail), tail), (1,))
        self.check((each("x", do(loop(count("y", repeat(NIL, when(tail)))))),))
        self.check((loop(each("x", tail), tail),), (0, 2, 1))
        self.check((each("x", each("y", tail), tail), tail), (1,))
        self.check((each("x", give(function(tail))),), (0, 3, 0, 1, 0, 3, 0))
        self.check((each("x", give(call(function(tail)))),), (0, 3, 0, 1, 0, 1, 3, 0))
        self.check((each("x", doing(function(each("y", tail))), tail),))
        self.check((each("x", values=(function(tail), NIL)), tail), (0, 2, 0, 3, 0), (1,))
        self.check((give(function(each("x", tail), tail)),), (0, 1, 0, 3, 1))

    def test_behind_a_jump(self):
        tail = give(CALL)
        self.check((do(goto("a"), local("x", marks=("close",)), label("a")), tail), (1,))
        self.check((label("a"), local("x", marks=("close",)), when(goto("a")), tail))

    def test_targets_and_values(self):
        tail = function(give(CALL))
        self.check((put(("index", tail, tail), tail),), (0, 1, 0, 1, 3, 0), (0, 1, 0, 2, 3, 0), (0, 2, 0, 3, 0))


if __name__ == "__main__":
    unittest.main()
