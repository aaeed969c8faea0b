"""[25] jumps."""

import unittest

from builders import BREAK, NIL, count, do, doing, each, function, give, goto, label, local, loop, name, repeat, when
from upvalues.scopes import jumps


class JumpsTest(unittest.TestCase):
    def check(self, program, *rows):
        self.assertEqual(jumps(program), list(rows))

    def test_none(self):
        self.check(())
        self.check((label("a"), do(label("b")), loop()))

    def test_the_example(self):
        self.check((label("a"), local("x"), ("if", ((name("x"), (goto("a"),)),), None)), ((2, 1, 0, 1, 0), (0,)))

    def test_ahead_and_back(self):
        self.check((goto("a"), label("a")), ((0,), (1,)))
        self.check((label("a"), goto("a")), ((1,), (0,)))
        self.check((goto("b"), label("a"), goto("a"), label("b"), goto("b")), ((0,), (3,)), ((2,), (1,)), ((4,), (3,)))

    def test_out_of_blocks(self):
        self.check((do(loop(repeat(NIL, goto("a")))), label("a")), ((0, 1, 0, 2, 0, 1, 0), (1,)))
        self.check((label("a"), when(do(), count("i", each("j", goto("a"))))), ((1, 1, 0, 1, 1, 5, 0, 3, 0), (0,)))
        self.check((do(do(goto("a")), label("a"), when(other=(goto("a"),))),), ((0, 1, 0, 1, 0), (0, 1, 1)), ((0, 1, 2, 2, 0), (0, 1, 1)))

    def test_the_innermost_block_that_has_one(self):
        self.check((label("b"), do(do(goto("a")), label("a")), label("a"), goto("a")), ((1, 1, 0, 1, 0), (1, 1, 1)), ((3,), (2,)))
        self.check((do(goto("a"), do(label("a"))), label("a")), ((0, 1, 0), (1,)))
        self.check((do(label("a"), goto("a")), do(goto("a"), label("a")), goto("a"), label("a")), ((0, 1, 1), (0, 1, 0)),
                   ((1, 1, 0), (1, 1, 1)), ((2,), (3,)))

    def test_functions(self):
        body = function(goto("a"), label("a"))
        self.check((label("a"), doing(body), goto("a")), ((1, 1, 2, 0, 3, 0), (1, 1, 2, 0, 3, 1)), ((2,), (0,)))
        self.check((loop(doing(function(loop(BREAK))), BREAK),), ((0, 2, 0, 1, 2, 0, 3, 0, 2, 0), (0, 2, 0, 1, 2, 0, 3, 0)), ((0, 2, 1), (0,)))

    def test_over_variables(self):
        self.check((label("a"), local("x"), ("localfun", "f", function()), goto("a")), ((3,), (0,)))
        self.check((goto("a"), local("x"), label("b"), label("a")), ((0,), (3,)))
        self.check((loop(when(goto("a")), local("x"), label("a")),), ((0, 2, 0, 1, 0, 1, 0), (0, 2, 2)))
        self.check((repeat(NIL, label("a"), local("x"), goto("a")),), ((0, 1, 2), (0, 1, 0)))
        self.check((repeat(NIL, goto("a"), do(local("x")), label("a")),), ((0, 1, 0), (0, 1, 2)))
        self.check((repeat(NIL, do(goto("a"), local("x"), label("a"))),), ((0, 1, 0, 1, 0), (0, 1, 0, 1, 2)))

    def test_breaks(self):
        self.check((loop(BREAK), repeat(NIL, BREAK), count("i", BREAK), each("i", BREAK)), ((0, 2, 0), (0,)), ((1, 1, 0), (1,)),
                   ((2, 5, 0), (2,)), ((3, 3, 0), (3,)))
        self.check((loop(count("i", BREAK), BREAK, each("i", when(do(BREAK)))),), ((0, 2, 0, 5, 0), (0, 2, 0)), ((0, 2, 1), (0,)),
                   ((0, 2, 2, 3, 0, 1, 0, 1, 0, 1, 0), (0, 2, 2)))
        self.check((do(loop(do(), BREAK, do())),), ((0, 1, 0, 2, 1), (0, 1, 0)))

    def test_both_in_reading_order(self):
        self.check((loop(goto("a"), BREAK, goto("a")), label("a"), give(function(loop(BREAK)))), ((0, 2, 0), (1,)), ((0, 2, 1), (0,)),
                   ((0, 2, 2), (1,)), ((2, 1, 0, 3, 0, 2, 0), (2, 1, 0, 3, 0)))


if __name__ == "__main__":
    unittest.main()
