"""[17] the words of rules: close, const, return, dots, label, goto, scope, break, bounds of [22] and [24]."""

import unittest

from builders import (
    BREAK, NIL, call, count, do, doing, each, function, give, goto, label, local, loop, name, names, put, refusal, repeat, when,
)
from upvalues.programs import check_program

DOTS = ("dots",)


class WordsCase(unittest.TestCase):
    def refused(self, program, path, word):
        self.assertEqual(refusal(program, check_program), (path, word))

    def accepted(self, *program):
        self.assertIsNone(refusal(program, check_program))


class CloseTest(WordsCase):
    def test_once(self):
        self.accepted(local("a b c", marks=("const", "close", None)))
        self.accepted(local("a", marks=("close",)), local("b", marks=("close",)))
        self.refused((local("a b", marks=("close", "close")),), (0,), "close")
        self.refused((do(local("a b c", marks=("close", None, "close"))),), (0, 1, 0), "close")

    def test_ahead_of_its_values(self):
        bad = function(give(DOTS))
        self.refused((local("a b", bad, marks=("close", "close")),), (0,), "close")
        self.refused((local("a b", bad, marks=("close", None)),), (0, 3, 0, 3, 0, 1, 0), "dots")


class ConstTest(WordsCase):
    def test_marked_variables(self):
        for mark in ("const", "close"):
            marked = local("a", marks=(mark,))
            self.refused((marked, put(name("a"))), (1, 1, 0), "const")
            self.refused((marked, do(put(name("a")))), (1, 1, 0, 1, 0), "const")
            self.refused((marked, give(function(put(name("a"))))), (1, 1, 0, 3, 0, 1, 0), "const")
            self.refused((marked, ("set", (name("b"), name("a")), (NIL,))), (1, 1, 1), "const")
            self.refused((repeat(function(put(name("a"))), marked),), (0, 2, 3, 0, 1, 0), "const")

    def test_others(self):
        marked = local("a b", marks=("const", None))
        self.accepted(marked, put(name("b")), put(("index", name("a"), NIL), name("a")))
        self.accepted(put(name("a")), marked)
        self.accepted(do(marked), put(name("a")))
        self.accepted(marked, do(local("a"), put(name("a"))), give(function(put(name("a")), params="a")))
        self.accepted(marked, count("a", put(name("a"))), each("a", put(name("a"))), ("localfun", "a", function(put(name("a")))))
        self.accepted(local("a a", marks=("const", None)), put(name("a")))
        self.refused((local("a a", marks=(None, "const")), put(name("a"))), (1, 1, 0), "const")
        self.accepted(local("a", function(put(name("a"))), marks=("const",)))

    def test_env(self):
        marked = local("_ENV", marks=("const",))
        self.accepted(marked, put(name("a")))
        self.refused((marked, put(name("_ENV"))), (1, 1, 0), "const")
        self.accepted(put(name("_ENV")), give(function(put(name("_ENV")))))

    def test_targets_come_ahead_of_values(self):
        bad = function(give(DOTS))
        marked = local("a", marks=("const",))
        self.refused((marked, ("set", (name("a"),), (bad,))), (1, 1, 0), "const")
        self.refused((marked, ("set", (("index", bad, NIL), name("a")), (NIL,))), (1, 1, 0, 1, 3, 0, 1, 0), "dots")
        self.refused((marked, ("set", (name("b"), name("a"), ("index", bad, NIL)), (NIL,))), (1, 1, 1), "const")


class ReturnTest(WordsCase):
    def test_last_of_its_block(self):
        self.accepted(give())
        self.accepted(do(give()), loop(give()), when(give(), other=(give(),)), repeat(NIL, give()), give(function(give())))
        self.refused((give(), do()), (0,), "return")
        self.refused((give(), give()), (0,), "return")
        self.refused((give(), label("a")), (0,), "return")
        self.refused((do(give(), BREAK),), (0, 1, 0), "return")
        self.refused((give(function(give(), do())),), (0, 1, 0, 3, 0), "return")
        self.refused((repeat(NIL, give(), do()),), (0, 1, 0), "return")
        self.refused((when(other=(give(), do())),), (0, 2, 0), "return")

    def test_ahead_of_its_values(self):
        self.refused((give(function(give(DOTS))), do()), (0,), "return")


class DotsTest(WordsCase):
    def test_dots(self):
        self.accepted(give(DOTS))
        self.accepted(loop(give(function(give(DOTS), dots=True))))
        self.accepted(give(function(give(function(give(DOTS), dots=True)))))
        self.refused((give(function(give(DOTS))),), (0, 1, 0, 3, 0, 1, 0), "dots")
        self.refused((give(function(give(function(give(NIL, DOTS))), dots=True)),), (0, 1, 0, 3, 0, 1, 0, 3, 0, 1, 1), "dots")
        self.refused((("localfun", "a", function(do(do(doing(DOTS))))),), (0, 2, 3, 0, 1, 0, 1, 0, 1, 2, 0), "dots")
        self.accepted(doing(function(give(NIL))), give(DOTS))


class BreakTest(WordsCase):
    def test_break(self):
        self.accepted(loop(BREAK), repeat(NIL, BREAK), count("a", BREAK), each("a", BREAK), loop(do(when(BREAK, do()))))
        self.accepted(loop(BREAK, BREAK))
        self.refused((BREAK,), (0,), "break")
        self.refused((do(BREAK),), (0, 1, 0), "break")
        self.refused((loop(), BREAK), (1,), "break")
        self.refused((repeat(NIL), when(BREAK)), (1, 1, 0, 1, 0), "break")
        self.refused((count("a"), each("a"), BREAK), (2,), "break")
        self.refused((loop(give(function(BREAK))),), (0, 2, 0, 1, 0, 3, 0), "break")
        self.refused((repeat(function(BREAK)),), (0, 2, 3, 0), "break")
        self.refused((("while", function(BREAK), ()),), (0, 1, 3, 0), "break")
        self.refused((each("a", values=(function(BREAK),)),), (0, 2, 0, 3, 0), "break")


class LabelTest(WordsCase):
    def test_elder_ones(self):
        self.refused((label("a"), label("a")), (1,), "label")
        self.refused((label("a"), do(), do(label("a"))), (2, 1, 0), "label")
        self.refused((label("a"), loop(when(repeat(NIL, label("a"))))), (1, 2, 0, 1, 0, 1, 0, 1, 0), "label")
        self.refused((do(do(), label("a"), count("b", label("b"), label("a"))),), (0, 1, 2, 5, 1), "label")

    def test_others(self):
        self.accepted(label("a"), label("b"))
        self.accepted(do(label("a")), label("a"))
        self.accepted(do(label("a")), do(label("a")))
        self.accepted(when(label("a"), other=(label("a"),)))
        self.accepted(label("a"), give(function(label("a"))))
        self.accepted(do(loop(label("a")), label("a")), label("a"))
        self.accepted(label("a"), repeat(function(label("a"))))


class GotoTest(WordsCase):
    def test_goto(self):
        self.refused((goto("a"),), (0,), "goto")
        self.refused((goto("a"), label("b")), (0,), "goto")
        self.refused((goto("a"), do(label("a"))), (0,), "goto")
        self.refused((do(label("a")), goto("a")), (1,), "goto")
        self.refused((label("a"), give(function(goto("a")))), (1, 1, 0, 3, 0), "goto")
        self.refused((("localfun", "f", function(label("a"))), goto("a")), (1,), "goto")
        self.refused((when(label("a"), other=(goto("a"),)),), (0, 2, 0), "goto")
        self.refused((repeat(function(goto("a")), label("a")),), (0, 2, 3, 0), "goto")
        self.accepted(goto("a"), label("a"))
        self.accepted(label("a"), goto("a"))
        self.accepted(label("a"), do(goto("a")))

    def test_scope(self):
        self.refused((goto("a"), local("x"), label("a"), do()), (0,), "scope")
        self.refused((goto("a"), ("localfun", "x", function()), label("a"), do()), (0,), "scope")
        self.refused((do(goto("a")), local("x"), label("a"), give()), (0, 1, 0), "scope")
        self.refused((goto("a"), local("x"), label("a"), label("b"), do()), (0,), "scope")
        self.refused((do(loop(goto("a")), do(), local("x"), do(), label("a"), do()),), (0, 1, 0, 2, 0), "scope")
        self.refused((repeat(NIL, goto("a"), local("x"), label("a")),), (0, 1, 0), "scope")
        self.refused((repeat(NIL, do(goto("a")), local("x"), label("a"), label("b")),), (0, 1, 0, 1, 0), "scope")

    def test_no_variable_between(self):
        self.accepted(goto("a"), label("a"), local("x"))
        self.accepted(local("x"), goto("a"), label("a"), do())
        self.accepted(goto("a"), do(local("x")), label("a"), do())
        self.accepted(goto("a"), count("x", local("y")), each("x"), label("a"), do())
        self.accepted(do(local("x"), goto("a")), label("a"), do())
        self.accepted(label("a"), local("x"), goto("a"))
        self.accepted(label("a"), local("x"), do(goto("a"), local("y")), local("z"))
        self.accepted(repeat(NIL, label("a"), local("x"), goto("a")))
        self.accepted(repeat(NIL, goto("a"), label("a"), local("x")))

    def test_at_the_end_of_a_block(self):
        self.accepted(goto("a"), local("x"), label("a"))
        self.accepted(goto("a"), local("x"), label("a"), label("b"))
        self.accepted(goto("a"), local("x"), label("b"), label("a"))
        self.accepted(loop(when(goto("a")), local("x"), ("localfun", "y", function()), label("a")))
        self.accepted(do(goto("a"), local("x"), label("a")), do())
        self.accepted(give(function(goto("a"), local("x"), label("a"))))
        self.accepted(repeat(NIL, do(goto("a"), local("x"), label("a"))))
        self.accepted(count("i", goto("a"), local("x"), label("a")), each("i", goto("a"), local("x"), label("a")))

    def test_the_innermost_block_and_its_first_label(self):
        # The label of the inner block is the one, though that of the outer block could be reached.
        self.refused((label("b"), do(goto("a"), local("x"), label("a"), do()), label("a")), (1, 1, 0), "scope")
        # The first of two labels is the one, so that the second label alone is at fault.
        self.refused((goto("a"), label("a"), local("x"), do(), label("a")), (4,), "label")
        self.refused((goto("a"), local("x"), label("a"), do(), label("a")), (0,), "scope")


class VariablesTest(WordsCase):
    LONG = " ".join(f"v{k}" for k in range(50))

    def test_locals(self):
        self.accepted(local(self.LONG), local("a b c d e f g h i j"))
        self.refused((local(self.LONG), local("a b c d e f g h i j k")), (1,), "bounds")
        self.refused((local(self.LONG), local("a b c d e f g h i j"), local("k")), (2,), "bounds")
        self.refused((local(self.LONG), do(), do(do(local("a b c d e f g h i j k")))), (2, 1, 0, 1, 0), "bounds")
        self.refused((local("a " * 50), local("a " * 11)), (1,), "bounds")

    def full(self, *more):
        """A program with 60 variables in scope, and more behind them."""
        return (local(self.LONG), local("a b c d e f g h i j")) + more

    def test_all_that_declare(self):
        self.accepted(*self.full())
        for node in (local("x"), ("localfun", "x", function()), count("x"), each("x")):
            self.refused(self.full(node), (2,), "bounds")
            self.accepted(*self.full()[:1], local("a b c d e f g h i"), node)
        self.refused((local(self.LONG), local("a b c d e f g h i"), each("x y")), (2,), "bounds")
        self.refused((local(self.LONG), local("a b c d e f g h i"), count("x", local("y"))), (2, 5, 0), "bounds")

    def test_scopes_end(self):
        self.accepted(do(*self.full()), *self.full())
        self.accepted(*self.full()[:1], do(local("a b c d e f g h i j")), local("a b c d e f g h i j"))
        nine = local("a b c d e f g h i")
        self.accepted(*self.full()[:1], nine, count("x"), each("x"), repeat(NIL, local("x")), when(local("x"), other=(local("x"),)), local("x"))
        self.accepted(*self.full()[:1], nine, loop(local("x")), do(("localfun", "x", function())), local("x"))

    def test_each_function_counts_for_itself(self):
        self.accepted(*self.full(give(function(*self.full()))))
        params = function(local("a b c d e f g h i j"), params=self.LONG)
        self.accepted(*self.full(give(params)))
        params = function(local("a b c d e f g h i j k"), params=self.LONG)
        self.refused(self.full(give(params)), (2, 1, 0, 3, 0), "bounds")

    def test_met_behind_the_values(self):
        bad = function(give(DOTS))
        path = (3, 0, 1, 0)
        self.refused(self.full(local("x", bad)), (2, 3, 0) + path, "dots")
        self.refused(self.full(("for", "x", NIL, bad, None, ())), (2, 3) + path, "dots")
        self.refused(self.full(each("x", values=(NIL, bad))), (2, 2, 1) + path, "dots")
        self.refused(self.full(("localfun", "x", bad)), (2,), "bounds")
        self.refused(self.full(count("x", BREAK, give(DOTS), do())), (2,), "bounds")

    def test_close_ahead_of_bounds(self):
        self.refused(self.full(local("x y", marks=("close", "close"))), (2,), "close")
        self.refused(self.full(local("x y", marks=("close", None))), (2,), "bounds")


class UpvaluesTest(WordsCase):
    A = "a0 a1 a2 a3 a4 a5 a6 a7 a8 a9 b0 b1 b2 b3 b4 b5 b6 b7 b8 b9 c0 c1 c2 c3 c4 c5 c6 c7 c8 c9 d0 d1 d2 d3 d4 d5 d6 d7 d8 d9"

    def test_forty(self):
        row = names(*self.A.split())
        self.accepted(local(self.A), give(function(give(*row))))
        self.accepted(local(self.A), local("x"), give(function(give(*row, *row[:10]))))
        self.refused((local(self.A), local("x"), give(function(give(*row, name("x"))))), (2, 1, 0, 3, 0, 1, 40), "bounds")
        self.refused((local(self.A), give(function(give(*row, name("print"))))), (1, 1, 0, 3, 0, 1, 40), "bounds")
        self.refused((local(self.A), give(function(give(*row, name("_ENV"))))), (1, 1, 0, 3, 0, 1, 40), "bounds")
        self.accepted(local(self.A), give(*row, name("print"), name("_ENV")))

    def test_in_functions_around(self):
        row = names(*self.A.split())
        inner = function(give(name("x")))
        self.refused((local(self.A), local("x"), give(function(doing(*row), give(inner)))), (2, 1, 0, 3, 1, 1, 0, 3, 0, 1, 0), "bounds")
        self.refused((local(self.A), local("x"), give(function(doing(inner), give(*row)))), (2, 1, 0, 3, 1, 1, 39), "bounds")
        self.accepted(local(self.A), give(function(local("x"), doing(*row), give(inner))))
        self.accepted(local(self.A), local("x"), doing(function(doing(*row)), inner))

    def test_bounds_ahead_of_const(self):
        row = names(*self.A.split())
        marked = local("x", marks=("const",))
        body = function(doing(*row), put(name("x")))
        self.refused((local(self.A), marked, give(body)), (2, 1, 0, 3, 1, 1, 0), "bounds")
        body = function(doing(*row[1:]), put(name("x")))
        self.refused((local(self.A), marked, give(body)), (2, 1, 0, 3, 1, 1, 0), "const")


class OrderTest(WordsCase):
    def test_the_first_one_met(self):
        rows = [
            (BREAK, "break", ()), (goto("no"), "goto", ()), (local("a b", marks=("close", "close")), "close", ()),
            (do(give(), do()), "return", (1, 0)), (do(label("a"), label("a")), "label", (1, 1)),
            (doing(function(give(DOTS))), "dots", (1, 2, 0, 3, 0, 1, 0)),
            (do(goto("a"), local("x"), label("a"), do()), "scope", (1, 0)),
            (do(local("x", marks=("const",)), put(name("x"))), "const", (1, 1, 1, 0)),
            (do(VariablesTest().full()[0], VariablesTest().full()[0]), "bounds", (1, 1)),
        ]
        for first, word, path in rows:
            self.refused((first,), (0,) + path, word)
            for second, _, _ in rows:
                self.refused((first, second), (0,) + path, word)
                self.refused((loop(), do(first), second), (1, 1, 0) + path, word)

    def test_in_one_statement(self):
        bad = function(give(DOTS))
        self.refused((("while", bad, (goto("a"),)),), (0, 1, 3, 0, 1, 0), "dots")
        self.refused((repeat(bad, goto("a")),), (0, 1, 0), "goto")
        self.refused((("if", ((NIL, (goto("a"),)), (bad, ())), None),), (0, 1, 0, 1, 0), "goto")
        self.refused((("for", "x", NIL, NIL, bad, (goto("a"),)),), (0, 4, 3, 0, 1, 0), "dots")
        self.refused((each("x", goto("a"), values=(bad,)),), (0, 2, 0, 3, 0, 1, 0), "dots")
        self.refused((give(call(bad, function(goto("a")))),), (0, 1, 0, 1, 3, 0, 1, 0), "dots")


if __name__ == "__main__":
    unittest.main()
