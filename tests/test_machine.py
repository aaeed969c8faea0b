"""[61] to [67]: code written by hand, each instruction, its ways, and what is live while it calls something."""

import random
import unittest

from builders import real
from code_helper import END, CodeCase, main, part_of, verdict
from code_maker import some_codes
from upvalues.errors import InvalidArgument, InvalidCode, LimitExceeded
from upvalues.runs import Outcome, code_outcome


def load(*values, first=0):
    """Instructions that load values into the registers from one on."""
    return [("load", first + at, value) for at, value in enumerate(values)]


def fetch(to, *names):
    """Instructions that put a field of the globals, and fields of fields, into a register; the next register is used, too."""
    parts = [("upget", to, 0)]
    for name in names:
        parts += [("load", to + 1, name), ("get", to, to, to + 1)]
    return parts


def told(first, many):
    return ("return", first, many, False)


class MachineCase(CodeCase):
    def ends(self, end, *parts, others=(), work=None, **more):
        """Runs a main Code with the given parts, and others behind it; end is a list of results, or a tuple with what is thrown."""
        more.setdefault("size", 12)
        found = code_outcome([main(*parts, **more), *others])
        self.assertIsInstance(found, Outcome)
        self.assertEqual(found.end, ("done", end) if isinstance(end, list) else ("error", end[0]), parts)
        if work is not None:
            self.assertEqual(found.work, work)
        return found


class ValuesTest(MachineCase):
    def test_move_and_load(self):
        self.ends([5, None, True, "x", real(0.5), 5], *load(5, None, True, "x", real(0.5)), ("move", 5, 0), told(0, 6))
        self.ends([2, 2], *load(1, 2), ("move", 0, 1), told(0, 2))

    def test_registers_are_nil_at_first(self):
        inner = part_of(told(0, 3), params=3, size=3)
        self.ends([7, None, None], ("function", 0, 1), ("load", 1, 7), ("call", 0, 1, False, 3), told(0, 3), others=[inner])

    def test_upvalues(self):
        # The inner function counts with a variable of the main one; the main one sees it.
        inner = part_of(("upget", 0, 0), ("load", 1, 1), ("op", 0, "add", 0, 1), ("upset", 0, 0), told(0, 1), upvalues=[("reg", 2)])
        parts = [("load", 2, 5), ("function", 0, 1), ("move", 1, 0), ("call", 1, 0, False, 1), ("move", 3, 1), ("call", 0, 0, False, 1)]
        self.ends([7, 6, 7, 6], *parts, ("move", 1, 3), told(0, 4), others=[inner])

    def test_upvalues_of_upvalues(self):
        deep = part_of(("upget", 0, 1), ("upset", 0, 0), told(0, 1), upvalues=[("reg", 0), ("up", 0)], size=1)
        middle = part_of(("load", 0, 1), ("function", 1, 2), ("call", 1, 0, False, 0), told(0, 1), upvalues=[("reg", 3)])
        self.ends([9], ("load", 3, 9), ("function", 0, 1), ("call", 0, 0, False, 1), told(0, 1), others=[middle, deep])

    def test_the_main_upvalue_is_a_variable(self):
        self.ends([5, 5], ("load", 0, 5), ("upset", 0, 0), ("upget", 1, 0), told(0, 2))
        self.ends([("table", 0)], ("upget", 0, 0), told(0, 1))

    def test_get_and_set(self):
        self.ends([("native", "print"), ("table", 1)], *fetch(0, "print"), *fetch(1, "coroutine"), told(0, 2))
        parts = [("table", 0, 0, 0), *load("k", 7, first=1), ("set", 0, 1, 2), ("get", 3, 0, 1), ("get", 4, 0, 2)]
        self.ends([7, None], *parts, told(3, 2))
        self.ends(("3: attempt to index a nil value",), *load(None, 1), ("get", 0, 0, 1), END)
        self.ends(("3: attempt to index a number value",), *load(None, 1), ("set", 1, 0, 0), END)
        self.ends(("3: table index is nil",), ("table", 0, 0, 0), ("load", 1, None), ("set", 0, 1, 0), END)

    def test_self(self):
        parts = [("table", 0, 0, 0), *load("m", 7, first=1), ("set", 0, 1, 2), ("self", 3, 0, "m")]
        self.ends([7, ("table", 2)], *parts, told(3, 2))
        self.ends([7, ("table", 2)], *parts[:-1], ("self", 0, 0, "m"), told(0, 2))
        self.ends([None, ("table", 2)], ("table", 5, 0, 0), ("self", 4, 5, "m"), told(4, 2))
        self.ends(("2: attempt to index a boolean value",), ("load", 0, True), ("self", 0, 0, "m"), END)

    def test_table(self):
        self.ends([("table", 2), ("table", 3)], ("table", 0, 3, 1), ("table", 1, 0, 0), told(0, 2))
        # Room for three nodes is room for four: the order of the keys tells it.
        keys = "abcdefgh"
        rows = {}
        for nodes in (0, 3, 8):
            parts = [("table", 0, 0, nodes)]
            for key in keys:
                parts += [("load", 1, key), ("set", 0, 1, 1)]
            parts += [*fetch(2, "next"), ("move", 3, 0), ("call", 2, 1, False, 1), told(2, 1)]
            rows[nodes] = code_outcome([main(*parts)]).end[1][0]
        self.assertEqual(sorted(rows), [0, 3, 8])

    def test_append(self):
        parts = [("table", 0, 0, 0), *load("a", None, "c", first=1), ("append", 0, 1, 3, 1, False), ("unary", 4, "len", 0), ("load", 5, 3), ("get", 5, 0, 5)]
        self.ends([3, "c"], *parts, told(4, 2))
        # The open row is put behind the registers.
        inner = part_of(("table", 0, 0, 0), ("load", 1, "a"), ("dots", 2, None), ("append", 0, 1, 1, 5, True), *load(6, 7, first=1), ("get", 1, 0, 1),
                        ("get", 2, 0, 2), told(1, 2), dots=True)
        self.ends([8, 9], ("function", 0, 1), *load(8, 9, first=1), ("call", 0, 2, False, 2), told(0, 2), others=[inner])
        self.ends(("2: attempt to index a string value",), ("load", 0, "x"), ("append", 0, 0, 0, 1, False), END)

    def test_append_makes_room_and_stores_raw(self):
        # With a metatable that has __newindex, nothing is called.
        parts = [("table", 0, 0, 0), ("table", 1, 0, 0), *load("__newindex", 5, first=2), ("set", 1, 2, 3), *fetch(2, "setmetatable"), ("move", 3, 0),
                 ("move", 4, 1), ("call", 2, 2, False, 0), ("load", 2, "v"), ("append", 0, 2, 1, 1, False), ("load", 3, 1), ("get", 3, 0, 3), told(3, 1)]
        self.ends(["v"], *parts)
        self.ends(("2: attempt to index a nil value",), ("load", 0, None), ("append", 0, 0, 0, 0, False), END)

    def test_operators(self):
        self.ends([3, "12", False, True, real(0.5), -1, False, 1, -2], *load(1, 2, "x"), ("op", 3, "add", 0, 1), ("op", 4, "concat", 0, 1),
                  ("op", 5, "gt", 0, 1), ("op", 6, "ne", 0, 1), ("op", 7, "div", 0, 1), ("unary", 8, "neg", 0), ("unary", 9, "not", 0),
                  ("unary", 10, "len", 2), ("unary", 11, "bnot", 0), told(3, 9))
        self.ends(("2: attempt to perform arithmetic on a nil value",), ("load", 0, None), ("op", 0, "add", 0, 0), END)
        self.ends(("2: attempt to get length of a nil value",), ("load", 0, None), ("unary", 0, "len", 0), END)
        self.ends([True], ("load", 0, None), ("unary", 0, "not", 0), told(0, 1))

    def with_event(self, event, function, *parts):
        """Gives R[0] a table whose event is a function of the library, then does some parts."""
        return [("table", 0, 0, 0), ("table", 1, 0, 0), ("load", 2, event), *fetch(3, function), ("set", 1, 2, 3), *fetch(2, "setmetatable"), ("move", 3, 0),
                ("move", 4, 1), ("call", 2, 2, False, 0), ("load", 5, "k"), *parts]

    def test_events(self):
        self.ends([False], *self.with_event("__index", "rawequal", ("get", 6, 0, 5), told(6, 1)))
        self.ends([False, ("table", 2)], *self.with_event("__index", "rawequal", ("self", 6, 0, "k"), told(6, 2)))
        self.ends(["k"], *self.with_event("__newindex", "rawset", ("set", 0, 5, 5), ("get", 6, 0, 5), told(6, 1)))
        self.ends([True, False], *self.with_event("__concat", "rawequal", ("op", 6, "concat", 0, 0), ("op", 7, "concat", 0, 5), told(6, 2)))
        self.ends(["table", 0], *self.with_event("__unm", "kind", ("unary", 6, "neg", 0), ("unary", 7, "len", 0), told(6, 2)))
        self.ends([False, True], *self.with_event("__le", "rawequal", ("op", 6, "ge", 0, 5), ("op", 7, "le", 0, 0), told(6, 2)))
        self.ends([False, True], *self.with_event("__call", "rawequal", ("move", 6, 0), ("load", 7, 1), ("call", 6, 1, False, 1), ("move", 7, 0), ("move", 8, 0),
                                                  ("call", 7, 1, False, 1), told(6, 2)))

    def test_function(self):
        parts = [("function", 0, 1), ("function", 1, 1), ("op", 2, "eq", 0, 1), told(0, 3)]
        self.ends([("function", 1), ("function", 2), False], *parts, others=[part_of(END)])


class CapturedTest(MachineCase):
    def test_all_functions_share_a_register(self):
        setter = part_of(("load", 0, 8), ("upset", 0, 0), END, upvalues=[("reg", 2)])
        getter = part_of(("upget", 0, 0), told(0, 1), upvalues=[("reg", 2)])
        parts = [("load", 2, 1), ("function", 0, 1), ("function", 1, 2), ("call", 0, 0, False, 0), ("move", 3, 2), ("call", 1, 0, False, 1)]
        self.ends([8, 8], *parts, ("move", 2, 3), told(1, 2), others=[setter, getter])

    def test_close_ends_the_sharing(self):
        setter = part_of(("load", 0, 8), ("upset", 0, 0), END, upvalues=[("reg", 2)])
        getter = part_of(("upget", 0, 0), told(0, 1), upvalues=[("reg", 2)])
        parts = [("load", 2, 1), ("function", 0, 1), ("function", 1, 2)]
        ending = [("call", 0, 0, False, 0), ("move", 4, 1), ("call", 4, 0, False, 1), ("move", 3, 2), told(3, 2)]
        self.ends([8, 8], *parts, *ending, others=[setter, getter])
        # The register keeps its value; the two functions share the old variable.
        self.ends([1, 8], *parts, ("close", 2), *ending, others=[setter, getter])
        self.ends([1, 8], *parts, ("close", 0), *ending, others=[setter, getter])
        self.ends([8, 8], *parts, ("close", 3), *ending, others=[setter, getter])
        # A function that is made behind close shares the new one.
        again = [*parts, ("close", 2), ("function", 1, 2), ("load", 2, 5), ("call", 0, 0, False, 0), ("call", 1, 0, False, 1), told(1, 2)]
        self.ends([5, 5], *again, others=[setter, getter])

    def test_the_plan_and_calls_write_shared_registers(self):
        getter = part_of(("upget", 0, 0), told(0, 1), upvalues=[("reg", 5)])
        parts = [*load(1, 3, 1, first=2), ("load", 5, 0), ("function", 1, 1), ("forbegin", 2, 10), ("round",), ("load", 6, 1), ("fornext", 2, 6),
                 ("move", 0, 1), ("call", 1, 0, False, 1), told(1, 1)]
        self.ends([3], *parts, others=[getter])


class WaysTest(MachineCase):
    def test_jump_if_unless(self):
        self.ends([1], ("load", 0, 1), ("jump", 3), ("load", 0, 2), told(0, 1))
        for value in (0, "", True, real(0.0)):
            self.ends([1], ("load", 0, value), ("if", 0, 3), ("load", 0, 2), ("load", 0, 1), told(0, 1))
            self.ends([2], ("load", 0, value), ("unless", 0, 4), ("load", 0, 2), told(0, 1), ("load", 0, 1), told(0, 1))
        for value in (None, False):
            self.ends([2], ("load", 0, value), ("if", 0, 4), ("load", 0, 2), told(0, 1), ("load", 0, 1), told(0, 1))
            self.ends([1], ("load", 0, value), ("unless", 0, 4), ("load", 0, 2), told(0, 1), ("load", 0, 1), told(0, 1))

    def test_round_counts(self):
        self.ends([], ("round",), ("round",), END, work=3)
        with self.assertRaises(LimitExceeded) as caught:
            code_outcome([main(("round",), ("round",), END)], work=2)
        self.assertEqual(caught.exception.limit, 2)
        with self.assertRaises(LimitExceeded):
            code_outcome([main(("round",), ("jump", 0))], work=1000)

    def test_for(self):
        def loop(*values):
            # Adds up the values of the rounds in R[5], and counts them in R[6].
            return [*load(*values), *load(0, 0, 1, first=5), ("forbegin", 0, 11), ("round",), ("op", 5, "add", 5, 3), ("op", 6, "add", 6, 7),
                    ("fornext", 0, 7), told(5, 2)]
        self.ends([6, 3], *loop(1, 3, 1), work=4)
        self.ends([0, 0], *loop(1, 0, 1), work=1)
        self.ends([9, 3], *loop(5, 1, -2))
        self.ends([real(1.5), 2], *loop(real(0.5), 1, real(0.5)))
        self.ends(("7: 'for' step is zero",), *loop(1, 2, 0))
        self.ends(("7: 'for' limit must be a number",), *loop(1, "x", 1))
        self.ends(("7: 'for' initial value must be a number",), *loop(None, 2, 1))

    def test_a_plan_in_place_of_an_elder_one(self):
        parts = [*load(1, 9, 1), ("forbegin", 0, 11), *load(5, 6, 1), ("forbegin", 0, 11), ("round",), ("fornext", 0, 8), told(3, 1), END]
        self.ends([6], *parts, work=3)

    def test_plans_of_two_registers(self):
        parts = [*load(1, 2, 1), ("forbegin", 0, 15), *load(10, 30, 10, first=4), ("forbegin", 4, 15), ("round",), ("fornext", 4, 8), ("round",),
                 ("fornext", 0, 10), ("move", 8, 7), ("move", 7, 3), told(7, 2), END]
        self.ends([2, 30], *parts, work=6)

    def test_eachcall_and_eachnext(self):
        # The function counts up to its state.
        counter = part_of(("op", 2, "lt", 1, 0), ("unless", 2, 5), ("load", 2, 1), ("op", 1, "add", 1, 2), told(1, 1), END, params=2)
        parts = [("function", 0, 1), *load(3, 0, first=1), ("load", 6, 0), ("jump", 7), ("round",), ("op", 6, "add", 6, 2), ("eachcall", 0, 2), ("eachnext", 0, 5),
                 told(2, 1)]
        self.ends([3], *parts, others=[counter], work=8)
        self.ends([None, None], ("function", 0, 1), *load(0, 0, first=1), ("eachcall", 0, 2), told(4, 2), others=[counter])
        self.ends(("4: attempt to call a number value",), *load(1, 2, 3), ("eachcall", 0, 0), END)


class CallsTest(MachineCase):
    many = part_of(*load("a", "b", "c"), told(0, 3))

    def test_wanted(self):
        for wanted, end in [(0, [("function", 1), 5, 6, 7]), (1, ["a", 5, 6, 7]), (2, ["a", "b", 6, 7]), (4, ["a", "b", "c", None])]:
            self.ends(end, ("function", 0, 1), *load(5, 6, 7, first=1), ("call", 0, 0, False, wanted), told(0, 4), others=[self.many])

    def test_the_open_row(self):
        self.ends(["a", "b", "c"], ("function", 0, 1), ("call", 0, 0, False, None), ("return", 0, 0, True), others=[self.many])
        self.ends([7, "a", "b", "c"], ("function", 0, 1), ("load", 1, 7), ("call", 0, 0, False, None), ("return", 1, 1, True), others=[self.many])
        # As arguments, behind those in registers.
        row = part_of(("dots", 0, None), ("return", 0, 0, True), dots=True)
        parts = [("function", 0, 1), ("function", 1, 2), ("load", 2, 7), ("call", 0, 0, False, None), ("call", 1, 1, True, None), ("return", 0, 0, True)]
        self.ends([7, "a", "b", "c"], *parts, others=[self.many, row])
        self.ends([7, "a", "b", "c"], *parts[:4], ("tail", 1, 1, True), others=[self.many, row])

    def test_dots(self):
        inner = part_of(("dots", 1, 3), told(0, 4), params=1, dots=True)
        self.ends([1, 2, 3, None], ("function", 0, 1), *load(1, 2, 3, first=1), ("call", 0, 3, False, 4), told(0, 4), others=[inner])
        inner = part_of(("dots", 1, 3), told(0, 4), params=1, dots=False)
        self.ends([1, None, None, None], ("function", 0, 1), *load(1, 2, 3, first=1), ("call", 0, 3, False, 4), told(0, 4), others=[inner])
        inner = part_of(("load", 2, 5), ("dots", 2, 0), told(2, 1), dots=True)
        self.ends([5], ("function", 0, 1), ("load", 1, 9), ("call", 0, 1, False, 1), told(0, 1), others=[inner])

    def test_tail_calls_without_end(self):
        inner = part_of(("upget", 0, 0), ("tail", 0, 0, False), upvalues=[("reg", 0)])
        with self.assertRaises(LimitExceeded):
            code_outcome([main(("load", 0, None), ("function", 0, 1), ("call", 0, 0, False, 0), END), inner], work=5000)
        inner = part_of(("upget", 0, 0), ("call", 0, 0, False, 0), END, upvalues=[("reg", 0)])
        self.ends(("2: stack overflow",), ("load", 0, None), ("function", 0, 1), ("call", 0, 0, False, 0), END, others=[inner], work=180)

    def test_tail_of_a_library_function(self):
        self.ends([3], *fetch(0, "rawlen"), ("load", 1, "abc"), ("tail", 0, 1, False))
        self.ends(("5: attempt to call a nil value",), *fetch(0, "none"), ("load", 1, "abc"), ("tail", 0, 1, False))
        self.ends(("5: bad argument #1 to 'rawlen' (table or string expected)",), *fetch(0, "rawlen"), ("load", 1, 5), ("tail", 0, 1, False))

    def test_lines(self):
        parts = [*fetch(0, "error"), ("load", 1, "x"), ("call", 0, 1, False, 0), END]
        self.ends(("77: x",), *parts, lines=[0, 1, 2, 3, 77, 5])
        self.ends(("0: x",), *parts, lines=[1, 1, 2, 3, 0, 5])
        self.ends(("400: x",), *parts, lines=[1, 1, 2, 3, 400, 5])


class ClosingTest(MachineCase):
    """R[0] has a table with a closer that prints the error it is given."""

    closer = part_of(("upget", 2, 0), ("load", 3, "print"), ("get", 2, 2, 3), ("move", 3, 1), ("call", 2, 1, False, 0), END, params=2, upvalues=[("up", 0)])

    def closable(self, *registers):
        """Puts a value to be closed into each register; those behind them are used, too."""
        parts = []
        for at in registers:
            parts += [("table", at, 0, 0), ("table", at + 1, 0, 0), ("load", at + 2, "__close"), ("function", at + 3, 1), ("set", at + 1, at + 2, at + 3),
                      *fetch(at + 2, "setmetatable"), ("move", at + 3, at), ("move", at + 4, at + 1), ("call", at + 2, 2, False, 0)]
        return parts

    def test_mark(self):
        for value in (None, False):
            found = self.ends([], ("load", 0, value), ("mark", 0), END)
            self.assertEqual(found.log, [])
        for value in (5, True, "x"):
            self.ends(("2: variable got a non-closable value",), ("load", 0, value), ("mark", 0), END)
        self.ends(("2: variable got a non-closable value",), ("table", 0, 0, 0), ("mark", 0), END)

    def test_close_and_return(self):
        found = self.ends([5], *self.closable(0, 1), ("mark", 0), ("mark", 1), ("load", 2, 5), told(2, 1), others=[self.closer])
        self.assertEqual(found.log, [("nil",), ("nil",)])
        self.assertEqual(found.work, 7)
        found = self.ends([5], *self.closable(0), ("mark", 0), ("close", 1), ("load", 2, 5), ("close", 0), told(2, 1), others=[self.closer])
        self.assertEqual(found.log, [("nil",)])

    def test_the_last_one_first(self):
        teller = part_of(("upget", 2, 0), ("load", 3, "print"), ("get", 2, 2, 3), ("load", 3, "n"), ("get", 3, 0, 3), ("call", 2, 1, False, 0), END,
                         params=2, upvalues=[("up", 0)])
        parts = self.closable(0, 1, 2)
        for at in range(3):
            parts += [("load", 3, "n"), ("load", 4, at), ("set", at, 3, 4)]
        found = self.ends([], *parts, ("mark", 0), ("mark", 1), ("mark", 2), ("close", 1), *fetch(3, "print"), ("load", 4, "between"),
                          ("call", 3, 1, False, 0), END, others=[teller])
        self.assertEqual(found.log, [("2",), ("1",), ("between",), ("0",)])

    def test_an_error_closes(self):
        parts = [*self.closable(0), ("mark", 0), ("load", 1, None), ("op", 1, "add", 1, 1), END]
        found = self.ends(("14: attempt to perform arithmetic on a nil value",), *parts, others=[self.closer])
        self.assertEqual(found.log, [("14: attempt to perform arithmetic on a nil value",)])

    def test_a_closer_that_throws(self):
        thrower = part_of(("load", 2, None), ("call", 2, 0, False, 0), END, params=2, upvalues=[("up", 0)], lines=[30, 31, 32])
        found = self.ends(("31: attempt to call a nil value",), *self.closable(0), ("mark", 0), ("close", 0), END, others=[thrower])
        self.assertEqual(found.log, [])


class LiveTest(MachineCase):
    """Weak tables tell which registers were live."""

    look = part_of(("upget", 0, 0), ("load", 1, "collect"), ("get", 0, 0, 1), ("call", 0, 0, False, 0), END, upvalues=[("up", 0)])

    def weak(self, *registers):
        """Puts new tables into registers and, with these as values, into a table with weak values in R[11]."""
        parts = [("table", 11, 0, 0), ("table", 0, 0, 0), *load("__mode", "v", first=1), ("set", 0, 1, 2), *fetch(1, "setmetatable"), ("move", 2, 11),
                 ("move", 3, 0), ("call", 1, 2, False, 0)]
        for at in registers:
            parts += [("table", at, 0, 0), ("load", 0, at), ("set", 11, 0, at)]
        return parts

    def held(self, registers, part, live, before=()):
        """Which of the tables in some registers are held while a part calls collect; R[11] is kept by an upvalue."""
        keeper = part_of(("upget", 0, 0), told(0, 1), upvalues=[("reg", 11)])
        head = [*self.weak(*registers), ("function", 10, 2), ("upget", 0, 0), ("load", 1, "keeper"), ("set", 0, 1, 10), ("function", 0, 1), *before]
        rest = [*fetch(0, "keeper"), ("call", 0, 0, False, 1)]
        for place, at in enumerate(registers):
            rest += [("load", 1, at), ("get", 2 + place, 0, 1), ("unary", 2 + place, "not", 2 + place), ("unary", 2 + place, "not", 2 + place)]
        rest.append(told(2, len(registers)))
        parts = head + [part] + rest
        lives = [12] * len(parts)
        lives[len(head)] = live
        found = code_outcome([main(*parts, size=12, lives=lives), self.look, keeper])
        self.assertEqual(found.end[0], "done", found.end)
        return found.end[1]

    def test_registers_below_lives(self):
        for live in range(4, 8):
            self.assertEqual(self.held([4, 5, 6], ("call", 0, 0, False, 0), live), [at < live for at in (4, 5, 6)])

    def test_arguments_below_lives_are_live(self):
        for live in (0, 2, 3, 4):
            self.assertEqual(self.held([2, 3], ("call", 0, 3, False, 0), live), [at < live for at in (2, 3)])

    def test_the_open_row_that_is_taken(self):
        before = [*fetch(7, "assert"), ("move", 8, 4), ("move", 9, 5), ("move", 1, 4), ("call", 7, 2, False, None)]
        self.assertEqual(self.held([4, 5], ("call", 0, 0, True, 0), 1, before), [False, False])

    def test_what_is_pending(self):
        before = [("table", 6, 0, 0), ("load", 7, "__close"), ("set", 6, 7, 0), *fetch(7, "setmetatable"), ("move", 8, 4), ("move", 9, 6),
                  ("call", 7, 2, False, 0), ("mark", 4)]
        self.assertEqual(self.held([4, 5], ("call", 0, 0, False, 0), 1, before), [True, False])

    def test_the_function_and_its_dots(self):
        # The dots of the middle function hold the table; nothing else does.
        middle = part_of(("upget", 0, 0), ("load", 1, "collect"), ("get", 0, 0, 1), ("call", 0, 0, False, 0), ("upget", 0, 1), ("load", 1, 1), ("get", 0, 0, 1),
                         ("unary", 0, "not", 0), told(0, 1), upvalues=[("up", 0), ("reg", 11)], lives=[0] * 9)
        for dots in (True, False):
            middle.has_dots = dots
            parts = [*self.weak(), ("function", 0, 1), ("table", 1, 0, 0), ("load", 2, 1), ("set", 11, 2, 1), ("call", 0, 1, False, 1), told(0, 1)]
            lives = [12] * (len(parts) - 2) + [0, 12]
            self.assertEqual(code_outcome([main(*parts, size=12, lives=lives), middle]).end, ("done", [not dots]))

    def test_results_while_closers_run(self):
        closer = part_of(("upget", 2, 0), ("load", 3, "collect"), ("get", 2, 2, 3), ("call", 2, 0, False, 0), ("upget", 2, 1), ("load", 3, "seen"),
                         ("upget", 4, 2), ("load", 5, 5), ("get", 4, 4, 5), ("unary", 4, "not", 4), ("set", 2, 3, 4), END,
                         params=2, size=6, upvalues=[("up", 0), ("up", 0), ("reg", 11)])
        for place, seen in [(5, False), (4, True)]:
            parts = [*self.weak(4, 5), ("table", 6, 0, 0), ("function", 7, 1), ("load", 8, "__close"), ("set", 6, 8, 7), *fetch(7, "setmetatable"), ("table", 8, 0, 0),
                     ("move", 0, 8), ("move", 9, 6), ("call", 7, 2, False, 0), ("mark", 0), told(place, 1)]
            found = code_outcome([main(("function", 0, 2), ("call", 0, 0, False, 1), *fetch(1, "seen"), told(1, 1)), closer,
                                  part_of(*parts, size=12, upvalues=[("up", 0)], lives=[12] * len(parts))])
            self.assertEqual(found.end, ("done", [seen]))


class ManyRunsTest(MachineCase):
    def test_code_that_passes_comes_to_an_end(self):
        ran = 0
        for seed in range(4000):
            codes = some_codes(random.Random(seed))
            if verdict(codes) is not None:
                continue
            ran += 1
            try:
                first = code_outcome(codes, work=200)
                self.assertIn(first.end[0], ("done", "error"))
                self.assertTrue(first == code_outcome(codes, work=first.work))
            except LimitExceeded as error:
                self.assertEqual(error.limit, 200)
        self.assertGreater(ran, 100)

    def test_arguments(self):
        good = [main(END)]
        self.assertEqual(code_outcome(good).end, ("done", []))
        self.assertEqual(code_outcome(codes=tuple(good), work=1).work, 1)
        for work in (-1, 10 ** 7 + 1, True, None, "5", 5.0, [], real(5.0)):
            with self.assertRaises(InvalidArgument) as caught:
                code_outcome(good, work=work)
            self.assertEqual(caught.exception.part, "work")
            with self.assertRaises(InvalidCode):
                code_outcome([main(("jump", 0))], work=work)
        with self.assertRaises(TypeError):
            code_outcome(good, 5)
        self.assertEqual(code_outcome(good, work=10 ** 7).work, 1)


if __name__ == "__main__":
    unittest.main()
