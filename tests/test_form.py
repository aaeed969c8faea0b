"""[17], [19], [20] the form of programs, and the bounds of [21]."""

import string
import unittest

from builders import BREAK, INF, MINUS_ZERO, NAN, NIL, do, doing, function, give, goto, label, local, loop, name, refusal, when
from upvalues.code import Code
from upvalues.errors import InvalidProgram
from upvalues.numbers import Float
from upvalues.objects import Native, Thrown
from upvalues.programs import check_program, statement_paths, tail_returns
from upvalues.scopes import declarations, jumps, upvalue_places, uses

FUNCTION = ("function", ("a",), True, (BREAK,)[:0])
CALL = ("call", NIL, (NIL,))

# Things that are no part of a node, and tuples that are no nodes.
THINGS = [
    None, True, False, 0, 5, 1.5, float("nan"), 1j, "", "x y", b"nil", bytearray(b"x"), [], ["nil"], [NIL], {}, {"nil": 1},
    set(), {"nil"}, frozenset(), range(2), object(), len, tuple, NotImplemented, ..., INF, NAN, Native("x", None), Thrown("x"),
    InvalidProgram((), "form"), Code(0, False, 0, [], [], [], []),
]
TUPLES = [
    (), (None,), (5,), ([],), ({},), ((),), (NIL,), (INF,), ("no",), ("nil", None), ("Nil",), (b"nil",), ("close",), ("local",),
    ("item",), ("pair", NIL), ("index", NIL),
]
# Things that are good for a kind of part nevertheless.
GOOD = {
    "truth": [True, False],
    "number": [0, 5, INF, NAN],
    "string": ["", "x y"],
    "step": [None],
    "else": [None],
}

# For each form an example and, for each of its places behind the word, where and with what it may be spoilt:
# "own" for a part that is refused at the node, "node" for one that is refused at its own path.
STATEMENTS = [
    (("local", ("a", "b"), (None, "const"), (NIL, NIL)), ["own", "own", "own"]),
    (("set", (name("a"), ("index", NIL, NIL)), (NIL,)), ["own", "own"]),
    (("do", (do(),)), ["own"]),
    (("while", NIL, (BREAK,)), ["node", "own"]),
    (("repeat", (BREAK,), NIL), ["own", "node"]),
    (("if", ((NIL, ()), (NIL, (do(),))), (do(),)), ["own", "else"]),
    (("if", ((NIL, ()),), None), ["own", "else"]),
    (("for", "a", NIL, NIL, NIL, ()), ["own", "node", "node", "step", "own"]),
    (("for", "a", NIL, NIL, None, (BREAK,)), ["own", "node", "node", "step", "own"]),
    (("forin", ("a", "b"), (NIL, NIL), (BREAK,)), ["own", "own", "own"]),
    (("localfun", "a", FUNCTION), ["own", "node"]),
    (("call", CALL), ["node"]),
    (("call", ("method", NIL, "a", ())), ["node"]),
    (("return", (NIL, NIL)), ["own"]),
    (("label", "a"), ["own"]),
]
EXPRESSIONS = [
    (("nil",), []),
    (("true",), []),
    (("false",), []),
    (("dots",), []),
    (("number", 5), ["number"]),
    (("string", "x"), ["string"]),
    (("name", "a"), ["own"]),
    (("function", ("a", "b"), False, (give(),)), ["own", "truth", "own"]),
    (("index", NIL, NIL), ["node", "node"]),
    (("call", NIL, (NIL,)), ["node", "own"]),
    (("method", NIL, "a", (NIL,)), ["node", "own", "own"]),
    (("and", NIL, NIL), ["node", "node"]),
    (("or", NIL, NIL), ["node", "node"]),
    (("paren", NIL), ["node"]),
    (("op", "add", NIL, NIL), ["own", "node", "node"]),
    (("unary", "neg", NIL), ["own", "node"]),
    (("table", (("item", NIL), ("pair", NIL, NIL))), ["own"]),
]
ITEMS = [(("item", NIL), ["node"]), (("pair", NIL, NIL), ["node", "node"])]
TARGETS = [(("name", "a"), ["own"]), (("index", NIL, NIL), ["node", "node"])]


def as_statement(node):
    return (node,), (0,)


def as_expression(node):
    return (give(node),), (0, 1, 0)


def as_item(node):
    return (give(("table", (node,))),), (0, 1, 0, 1, 0)


def as_target(node):
    return (("set", (node,), (NIL,)),), (0, 1, 0)


def as_function(node):
    return (("localfun", "f", node),), (0, 2)


def as_called(node):
    return (("call", node),), (0, 1)


FUNCTIONS = [row for row in EXPRESSIONS if row[0][0] == "function"]
CALLED = [row for row in EXPRESSIONS if row[0][0] in ("call", "method")]
PLACES = [(as_statement, STATEMENTS), (as_expression, EXPRESSIONS), (as_item, ITEMS), (as_target, TARGETS), (as_function, FUNCTIONS),
          (as_called, CALLED)]


def replaced(node, place, thing):
    return node[:place] + (thing,) + node[place + 1:]


def nested(node, many, wrap):
    for _ in range(many):
        node = wrap(node)
    return node


class FormCase(unittest.TestCase):
    def refused(self, program, path, word="form"):
        self.assertEqual(refusal(program, check_program), (path, word))

    def accepted(self, program):
        self.assertIsNone(check_program(program))


class NodesTest(FormCase):
    def test_each_form_right(self):
        for place, examples in PLACES:
            for node, _ in examples:
                self.accepted(place(node)[0])
        self.accepted(())
        self.accepted((loop(BREAK), goto("a"), label("a")))

    def test_the_program_is_a_tuple(self):
        for thing in THINGS:
            self.refused(thing, ())
        self.refused([give()], ())
        self.assertIsNone(check_program(program=()))

    def test_what_stands_in_the_place_of_a_node(self):
        for place, _ in PLACES:
            for thing in THINGS + TUPLES:
                program, path = place(thing)
                self.refused(program, path)

    def test_nodes_of_another_position(self):
        for place, examples in PLACES:
            forms = [node[0] for node, _ in examples] + (["break", "goto"] if place == as_statement else [])
            for _, others in PLACES:
                for node, _ in others:
                    if node[0] not in forms or (node[0] == "call" and place == as_expression and len(node) == 2):
                        program, path = place(node)
                        self.refused(program, path)
        self.refused((CALL,), (0,))

    def test_each_part_left_out_or_one_more(self):
        for place, examples in PLACES:
            for node, _ in examples + ([(BREAK, []), (("goto", "a"), [])] if place == as_statement else []):
                for at in range(len(node)):
                    program, path = place(node[:at] + node[at + 1:])
                    self.refused(program, path)
                for more in (None, NIL, (), "a"):
                    program, path = place(node + (more,))
                    self.refused(program, path)

    def test_each_part_spoilt(self):
        for place, examples in PLACES:
            for node, kinds in examples:
                for at, kind in enumerate(kinds, 1):
                    good = GOOD.get(kind, [])
                    for thing in THINGS + (TUPLES if kind in ("node", "step") else []):
                        if not any(type(thing) is type(one) and thing == one for one in good):
                            program, path = place(replaced(node, at, thing))
                            self.refused(program, path + (at,) if kind in ("node", "step") else path)

    def test_words(self):
        for word in "add sub mul div floor mod band bor bxor shl shr concat eq ne lt le gt ge".split():
            self.accepted((give(("op", word, NIL, NIL)),))
            self.refused((give(("unary", word, NIL)),), (0, 1, 0))
        for word in "neg not len bnot".split():
            self.accepted((give(("unary", word, NIL)),))
            self.refused((give(("op", word, NIL, NIL)),), (0, 1, 0))
        for word in ("", "and", "or", "ADD", "+", b"add", None, ["add"], ("add",)):
            self.refused((give(("op", word, NIL, NIL)),), (0, 1, 0))
            self.refused((give(("unary", word, NIL)),), (0, 1, 0))

    def test_bools(self):
        for truth in (True, False):
            self.accepted((give(("function", (), truth, ())),))
        for thing in (0, 1, None, "True", (), [], INF):
            self.refused((give(("function", (), thing, ())),), (0, 1, 0))


class NamesTest(FormCase):
    GOOD = [*string.ascii_letters, "_", "Z", "_9", "a_B_0", "while", "_ENV", "a" * 20, "x" + "0" * 19]
    BAD = ["", "9", "9a", "a b", "a-b", "a" * 21, "a" * 10 ** 6, "\u00e9", "a\u0660", "\u00aa", "a.", " a", "a\n", "\x00", None, 5,
           True, b"a", ["a"], ("a",), INF]

    def test_everywhere(self):
        for word in self.GOOD + self.BAD:
            told = None if word in self.GOOD else "form"
            for program, path in [
                ((("local", (word,), (None,), ()),), (0,)),
                ((("local", ("a", word), (None, None), ()),), (0,)),
                ((("for", word, NIL, NIL, None, ()),), (0,)),
                ((("forin", ("a", word), (NIL,), ()),), (0,)),
                ((("localfun", word, FUNCTION),), (0,)),
                ((("label", word), ("goto", word)), (0,)),
                ((label("a"), ("goto", word if told else "a")), (1,)),
                ((("set", (("name", word),), (NIL,)),), (0, 1, 0)),
                ((give(("name", word)),), (0, 1, 0)),
                ((give(("method", NIL, word, ())),), (0, 1, 0)),
                ((give(("function", ("a", "b", word), False, ())),), (0, 1, 0)),
                ((("localfun", "a", ("function", (word, "b"), False, ())),), (0, 2)),
                ((("call", ("method", NIL, word, ())),), (0, 1)),
            ]:
                self.assertEqual(refusal(program, check_program), told and (path, told), (program, word))

    def test_names_may_be_equal(self):
        self.accepted((local("a a a"), ("forin", ("a", "a"), (NIL,), ()), give(("function", ("a", "a"), False, ()))))


class ListsTest(FormCase):
    def test_what_must_not_be_empty(self):
        self.refused((("local", (), (), ()),), (0,))
        self.refused((("set", (), (NIL,)),), (0,))
        self.refused((("set", (name("a"),), ()),), (0,))
        self.refused((("if", (), ()),), (0,))
        self.refused((("forin", (), (NIL,), ()),), (0,))
        self.refused((("forin", ("a",), (), ()),), (0,))

    def test_what_may_be_empty(self):
        self.accepted((local("a"), do(), loop(), ("repeat", (), NIL), ("if", ((NIL, ()),), ())))
        self.accepted((doing(), ("call", ("method", NIL, "a", ())), give()))
        self.accepted((give(("table", ()), ("function", (), False, ())),))

    def test_marks(self):
        for marks in [(None,), ("const",), ("close",)]:
            self.accepted((local("a", marks=marks),))
        for marks in [(), (None, None), ("Const",), ("",), (True,), (0,), (b"const",), (["const"],), ({},), [None], None, (("const",),)]:
            self.refused((("local", ("a",), marks, ()),), (0,))
        self.accepted((local("a b c", marks=("const", "close", "const")),))

    def test_arms(self):
        for arm in [(), (NIL,), (NIL, (), ()), (NIL, []), (NIL, None), [NIL, ()], None, "ab", (NIL, "")]:
            self.refused((("if", (arm,), None),), (0,))
            self.refused((("if", ((NIL, ()), arm), None),), (0,))
        self.refused((("if", ((NIL, ()), (5, ())), None),), (0, 1, 1, 0))
        self.refused((("if", ((NIL, (do(), None)), (NIL, ())), None),), (0, 1, 0, 1, 1))
        self.refused((("if", ((NIL, ()),), (do(), None)),), (0, 2, 1))
        self.refused((("if", ((None, ()), (NIL, [])), None),), (0,))

    def test_nodes_in_lists(self):
        for program, path in [
            ((local("a", NIL, None),), (0, 3, 1)),
            ((("set", (name("a"), NIL), (NIL,)),), (0, 1, 1)),
            ((("set", (name("a"),), (NIL, 5)),), (0, 2, 1)),
            ((("set", (("index", NIL, "x"),), (NIL,)),), (0, 1, 0, 2)),
            ((do(do(), do(None)),), (0, 1, 1, 1, 0)),
            ((loop(NIL),), (0, 2, 0)),
            ((("repeat", (BREAK, 5), NIL),), (0, 1, 1)),
            ((("for", "a", NIL, NIL, None, (NIL,)),), (0, 5, 0)),
            ((("forin", ("a",), (NIL, 5), ()),), (0, 2, 1)),
            ((("forin", ("a",), (NIL,), (5,)),), (0, 3, 0)),
            ((("localfun", "a", ("function", (), False, (5,))),), (0, 2, 3, 0)),
            ((doing(NIL, 5),), (0, 1, 2, 1)),
            ((("call", ("method", 5, "a", ())),), (0, 1, 1)),
            ((("call", ("method", NIL, "a", (NIL, 5))),), (0, 1, 3, 1)),
            ((give(NIL, 5),), (0, 1, 1)),
            ((give(("table", (("item", NIL), NIL))),), (0, 1, 0, 1, 1)),
            ((give(("table", (("pair", NIL, 5),))),), (0, 1, 0, 1, 0, 2)),
            ((give(("op", "add", NIL, ("unary", "neg", 5))),), (0, 1, 0, 3, 2)),
        ]:
            self.refused(program, path)

    def test_only_functions_and_calls_in_their_places(self):
        for thing in (NIL, name("a"), CALL, ("paren", FUNCTION)):
            self.refused((("localfun", "a", thing),), (0, 2))
        for thing in (NIL, name("a"), FUNCTION, ("paren", CALL), ("index", NIL, NIL)):
            self.refused((("call", thing),), (0, 1))
        for thing in (NIL, CALL, FUNCTION, ("paren", name("a"))):
            self.refused((("set", (thing,), (NIL,)),), (0, 1, 0))


class ConstantsTest(FormCase):
    def test_numbers(self):
        for number in (0, -1, 2 ** 63 - 1, -(2 ** 63), INF, NAN, MINUS_ZERO, Float(1, 3, -7)):
            self.accepted((give(("number", number)),))
        for number in (2 ** 63, -(2 ** 63) - 1, 10 ** 3000, True, False, 1.0, 1.5, "1", None, (1,), [1]):
            self.refused((give(("number", number)),), (0, 1, 0))

    def test_strings(self):
        for text in ("", "a", "\x01", "~", "".join(chr(k) for k in range(1, 127)), "x" * 200, "\n\t"):
            self.accepted((give(("string", text)),))
        for text in ("\x00", "\x7f", "a\x00", "a\x7f", "\u0100", "\ud800", "x" * 201, "x" * 10 ** 6, None, 5, b"a", ["a"], ("a",), True):
            self.refused((give(("string", text)),), (0, 1, 0))


class OrderTest(FormCase):
    def test_the_first_in_reading_order(self):
        bad = ("bad",)
        self.refused((do(bad), bad), (0, 1, 0))
        self.refused((bad, do(bad)), (0,))
        self.refused((loop(bad), bad), (0, 2, 0))
        self.refused((("while", bad, (bad,)),), (0, 1))
        self.refused((("repeat", (bad,), bad),), (0, 1, 0))
        self.refused((("repeat", (do(),), bad), bad), (0, 2))
        self.refused((("set", (("index", NIL, bad),), (bad,)), bad), (0, 1, 0, 2))
        self.refused((("if", ((NIL, (bad,)), (bad, ())), (bad,)),), (0, 1, 0, 1, 0))
        self.refused((("if", ((NIL, ()), (bad, (bad,))), (bad,)),), (0, 1, 1, 0))
        self.refused((("if", ((NIL, ()),), (bad, bad)), bad), (0, 2, 0))
        self.refused((("for", "a", NIL, bad, bad, (bad,)),), (0, 3))
        self.refused((("for", "a", NIL, NIL, bad, (bad,)),), (0, 4))
        self.refused((give(("call", bad, (bad,)), bad),), (0, 1, 0, 1))
        self.refused((give(("table", (("pair", NIL, bad), bad))),), (0, 1, 0, 1, 0, 2))

    def test_a_node_ahead_of_its_parts(self):
        self.refused((("while", ("bad",), None),), (0,))
        self.refused((("local", ("a", 5), (None, None), (None,)),), (0,))
        self.refused((give(("method", None, 5, ())),), (0, 1, 0))

    def test_form_and_bounds_ahead_of_all_other_words(self):
        faults = [BREAK, goto("no"), ("local", ("a", "b"), ("close", "close"), ()), do(give(), do()), do(label("a"), label("a")),
                  give(("function", (), False, (give(("dots",)),))), do(goto("a"), local("x"), label("a"), do()),
                  do(local("x", marks=("const",)), ("set", (name("x"),), (NIL,)))]
        for fault in faults:
            self.assertNotIn(refusal((fault,), check_program)[1], ("form", "bounds"))
            self.refused((fault, do(do(), 5)), (1, 1, 1))
            self.refused((fault, give(*[NIL] * 51)), (1,), "bounds")
            self.refused((fault, local("a", *[NIL] * 50), give(("unary", "neg", nested(NIL, 28, lambda e: ("paren", e))))),
                         (2, 1, 0, 2) + (1,) * 27 + (1,), "bounds")

    def test_form_and_bounds_by_their_places(self):
        long = give(*[NIL] * 51)
        self.refused((do(long), 5), (0, 1, 0), "bounds")
        self.refused((do(5), long), (0, 1, 0))
        self.refused((give(*[NIL] * 50, 5),), (0,), "bounds")
        self.refused((("local", ("a",) * 51, (None,) * 50, ()),), (0,))
        self.refused((("local", ("a",) * 51, (None,) * 50 + (5,), ()),), (0,))
        self.refused((("local", ("a",) * 50 + (5,), (None,) * 51, ()),), (0,))
        self.refused((("method", (NIL,) * 51, 5, ()),), (0,))
        self.refused((give(("method", NIL, 5, (NIL,) * 51)),), (0, 1, 0))

    def test_all_functions_raise_likewise(self):
        for program, told in [
            (None, ((), "form")), ((5,), ((0,), "form")), ((BREAK,), ((0,), "break")), ((goto("a"),), ((0,), "goto")),
            ((give(), give()), ((0,), "return")), ((give(*[NIL] * 51),), ((0,), "bounds")), ({}, ((), "form")),
        ]:
            for ask in (check_program, statement_paths, tail_returns, declarations, uses, upvalue_places, jumps):
                self.assertEqual(refusal(program, ask), told)

    def test_arguments_by_name(self):
        for ask in (statement_paths, tail_returns, declarations, uses, jumps):
            self.assertEqual(ask(program=()), [])
        self.assertEqual(upvalue_places(program=()), [[None]])


class BoundsTest(FormCase):
    def test_depth_of_statements(self):
        self.accepted((nested(do(), 29, do),))
        self.refused((nested(do(), 30, do),), (0,) + (1, 0) * 30, "bounds")
        self.accepted((nested(do(), 29, loop),))
        self.refused((nested(do(), 30, loop),), (0,) + (2, 0) * 29 + (1,), "bounds")
        self.accepted((nested(do(), 29, lambda node: when(node)),))
        self.refused((nested(do(), 30, lambda node: when(node)),), (0,) + (1, 0, 1, 0) * 29 + (1, 0, 0), "bounds")
        self.refused((nested(do(), 30, lambda node: ("repeat", (node,), NIL)),), (0,) + (1, 0) * 30, "bounds")

    def test_depth_of_expressions(self):
        for wrap, step in [
            (lambda e: ("paren", e), (1,)), (lambda e: ("unary", "neg", e), (2,)), (lambda e: ("call", e, ()), (1,)),
            (lambda e: ("index", e, NIL), (1,)), (lambda e: ("op", "add", e, NIL), (2,)), (lambda e: ("or", e, NIL), (1,)),
        ]:
            self.accepted((give(nested(NIL, 28, wrap)),))
            self.refused((give(nested(NIL, 29, wrap)),), (0, 1, 0) + step * 29, "bounds")
        for wrap, step in [
            (lambda e: ("call", NIL, (e,)), (2, 0)), (lambda e: ("method", NIL, "a", (e,)), (3, 0)),
            (lambda e: ("index", NIL, e), (2,)), (lambda e: ("op", "add", NIL, e), (3,)), (lambda e: ("and", NIL, e), (2,)),
        ]:
            first = (2,) if wrap(NIL)[0] == "op" else (1,)
            self.accepted((give(nested(NIL, 28, wrap)),))
            self.refused((give(nested(NIL, 29, wrap)),), (0, 1, 0) + step * 28 + first, "bounds")

    def test_depth_of_items(self):
        wrap = lambda e: ("table", (("item", e),))
        self.accepted((give(nested(NIL, 14, wrap)),))
        self.refused((give(nested(("paren", NIL), 14, wrap)),), (0, 1, 0) + (1, 0, 1) * 14 + (1,), "bounds")
        self.refused((give(("paren", nested(NIL, 14, wrap))),), (0, 1, 0, 1) + (1, 0, 1) * 14, "bounds")
        self.refused((give(nested(NIL, 15, wrap)),), (0, 1, 0) + (1, 0, 1) * 14 + (1, 0), "bounds")

    def test_depth_of_functions_and_targets(self):
        wrap = lambda node: give(function(node))
        self.accepted((nested(do(do()), 14, wrap),))
        self.refused((nested(do(do(do())), 14, wrap),), (0,) + (1, 0, 3, 0) * 14 + (1, 0, 1, 0), "bounds")
        target = nested(name("a"), 28, lambda e: ("index", e, NIL))
        self.accepted((("set", (target,), (NIL,)),))
        self.refused((("set", (("index", target, NIL),), (NIL,)),), (0, 1, 0) + (1,) * 29, "bounds")

    def test_form_ahead_of_bounds_at_one_node(self):
        self.refused((nested(("bad",), 30, do),), (0,) + (1, 0) * 30)
        self.refused((nested(do(5), 29, do),), (0,) + (1, 0) * 30)
        self.refused((do(),) * 400 + (("bad",),), (400,))

    def test_very_much_deeper(self):
        path = (0,) + (1, 0) * 30
        self.refused((nested(do(), 100000, do),), path, "bounds")
        self.refused((nested(("bad",), 100000, do),), path, "bounds")
        self.refused((give(nested(NIL, 100000, lambda e: ("paren", e))),), (0, 1, 0) + (1,) * 29, "bounds")
        self.refused((give(nested((), 100000, lambda e: (e,))),), (0, 1, 0))
        deep = nested((), 100000, lambda e: (e,))
        for program, where in [
            (deep, (0,)), ((("local", deep, (None,), ()),), (0,)), ((("local", ("a",), deep, ()),), (0,)),
            ((give(("op", deep, NIL, NIL)),), (0, 1, 0)), ((give(("number", deep)),), (0, 1, 0)),
            ((("if", deep, None),), (0,)), ((give(("function", (), deep, ())),), (0, 1, 0)), (((deep,),), (0,)),
        ]:
            self.refused(program, where)
        self.assertEqual(refusal((nested(do(), 100000, do),), uses), (path, "bounds"))

    def test_statements(self):
        self.accepted((do(),) * 400)
        self.refused((do(),) * 401, (400,), "bounds")
        self.refused((do(),) * 10 ** 6, (400,), "bounds")
        self.accepted((do(*[do()] * 398), do()))
        self.refused((do(*[do()] * 399), do()), (1,), "bounds")
        self.refused((do(*[do()] * 400),), (0, 1, 399), "bounds")
        self.accepted((do(*[do()] * 199), give(function(*[do()] * 199))))
        self.refused((do(*[do()] * 199), give(function(*[do()] * 199), function(do()))), (1, 1, 1, 3, 0), "bounds")
        self.refused((do(*[do()] * 199), give(function(*[do()] * 199)), do()), (2,), "bounds")

    def test_names_and_lists(self):
        many = ("a",) * 50
        values = (NIL,) * 50
        arm = (NIL, ())
        for good, bad, path in [
            (("local", many, (None,) * 50, ()), ("local", many + ("a",), (None,) * 51, ()), ()),
            (("local", ("a",), (None,), values), ("local", ("a",), (None,), values + (NIL,)), ()),
            (("set", (name("a"),) * 50, (NIL,)), ("set", (name("a"),) * 51, (NIL,)), ()),
            (("set", (name("a"),), values), ("set", (name("a"),), values + (NIL,)), ()),
            (("if", (arm,) * 50, None), ("if", (arm,) * 51, None), ()),
            (("forin", many, (NIL,), ()), ("forin", many + ("a",), (NIL,), ()), ()),
            (("forin", ("a",), values, ()), ("forin", ("a",), values + (NIL,), ()), ()),
            (("return", values), ("return", values + (NIL,)), ()),
            (("call", ("call", NIL, values)), ("call", ("call", NIL, values + (NIL,))), (1,)),
            (("call", ("method", NIL, "a", values)), ("call", ("method", NIL, "a", values + (NIL,))), (1,)),
            (give(("function", many, False, ())), give(("function", many + ("a",), False, ())), (1, 0)),
            (("localfun", "f", ("function", many, False, ())), ("localfun", "f", ("function", many + ("a",), False, ())), (2,)),
            (("return", (("call", NIL, values),)), ("return", (("call", NIL, values + (NIL,)),)), (1, 0)),
            (("return", (("method", NIL, "a", values),)), ("return", (("method", NIL, "a", values + (NIL,)),)), (1, 0)),
            (give(("table", (("item", NIL),) * 300)), give(("table", (("item", NIL),) * 301)), (1, 0)),
            (give(("table", (("pair", NIL, NIL),) * 300)), give(("table", (("pair", NIL, NIL),) * 301)), (1, 0)),
        ]:
            self.accepted((good,))
            self.refused((do(), bad), (1,) + path, "bounds")

    def test_a_program_stays_as_it_was(self):
        program = (local("a", NIL), loop(BREAK), give(FUNCTION))
        told = repr(program)
        for ask in (check_program, statement_paths, tail_returns, declarations, uses, upvalue_places, jumps):
            ask(program)
            self.assertEqual(repr(program), told)


if __name__ == "__main__":
    unittest.main()
