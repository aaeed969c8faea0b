"""[22] declarations, [23] uses, [24] upvalue_places."""

import unittest

from builders import NIL, call, count, do, doing, each, function, give, local, loop, name, names, put, repeat, when
from upvalues.scopes import declarations, jumps, upvalue_places, uses

INNER = ("function", (), False, (("return", (("call", name("x"), ()),)),))
EXAMPLE = (("local", ("x",), (None,), (name("x"),)), ("while", name("x"), (("break",),)), ("return", (INNER,)))


def described(program):
    """All names with what they are: "name word place borders"."""
    rows = []
    for path, word, where, borders in uses(program):
        node = program
        for place in path:
            node = node[place]
        rows.append((node[1], word, where, borders))
    return rows


class DeclarationsTest(unittest.TestCase):
    def check(self, program, *rows):
        self.assertEqual(declarations(program), list(rows))

    def test_the_example(self):
        self.check(EXAMPLE, ((0,), 0, "x", None, True))

    def test_none(self):
        self.check(())
        self.check((put(name("a")), do(give(function()))))

    def test_local(self):
        self.check((local("a b a", marks=("const", None, "close")),), ((0,), 0, "a", "const", False), ((0,), 1, "b", None, False),
                   ((0,), 2, "a", "close", False))

    def test_names_behind_values(self):
        inner = function(params="p q")
        self.check((local("a b", inner),), ((0, 3, 0), 0, "p", None, False), ((0, 3, 0), 1, "q", None, False),
                   ((0,), 0, "a", None, False), ((0,), 1, "b", None, False))
        self.check((("for", "a", inner, inner, None, (local("b"),)),), ((0, 2), 0, "p", None, False), ((0, 2), 1, "q", None, False),
                   ((0, 3), 0, "p", None, False), ((0, 3), 1, "q", None, False), ((0,), 0, "a", None, False),
                   ((0, 5, 0), 0, "b", None, False))
        self.check((each("a b", local("c"), values=(inner,)),), ((0, 2, 0), 0, "p", None, False), ((0, 2, 0), 1, "q", None, False),
                   ((0,), 0, "a", None, False), ((0,), 1, "b", None, False), ((0, 3, 0), 0, "c", None, False))

    def test_localfun_ahead_of_its_function(self):
        self.check((("localfun", "f", function(local("a"), params="p")),), ((0,), 0, "f", None, False), ((0, 2), 0, "p", None, False),
                   ((0, 2, 3, 0), 0, "a", None, False))

    def test_repeat_in_reading_order(self):
        self.check((repeat(function(params="p"), local("a")),), ((0, 1, 0), 0, "a", None, False), ((0, 2), 0, "p", None, False))

    def test_captured(self):
        body = function(give(name("a")))
        self.check((local("a b"), give(body)), ((0,), 0, "a", None, True), ((0,), 1, "b", None, False))
        self.check((local("a"), local("a", body), give(name("a"))), ((0,), 0, "a", None, True), ((1,), 0, "a", None, False))
        self.check((("localfun", "f", function(give(name("f")))),), ((0,), 0, "f", None, True))
        self.check((count("a", give(body)),), ((0,), 0, "a", None, True))
        self.check((give(function(give(function(put(name("p")))), params="p")),), ((0, 1, 0), 0, "p", None, True))
        self.check((repeat(body, local("a")),), ((0, 1, 0), 0, "a", None, True))
        self.check((each("a b", give(body), values=(body,)),), ((0,), 0, "a", None, True), ((0,), 1, "b", None, False))
        self.check((local("a", NIL), give(name("a"))), ((0,), 0, "a", None, False))

    def test_captured_by_fields(self):
        field = function(give(name("z")))
        self.check((local("_ENV"), give(name("z"))), ((0,), 0, "_ENV", None, False))
        self.check((local("_ENV"), give(field)), ((0,), 0, "_ENV", None, True))
        self.check((local("_ENV z"), give(field)), ((0,), 0, "_ENV", None, False), ((0,), 1, "z", None, True))
        self.check((local("_ENV"), give(function(put(name("z"))))), ((0,), 0, "_ENV", None, True))
        self.check((give(function(give(name("z")), params="_ENV")),), ((0, 1, 0), 0, "_ENV", None, False))

    def test_marks(self):
        self.check((local("a", marks=("close",)), give(function(give(name("a"))))), ((0,), 0, "a", "close", True))


class UsesTest(unittest.TestCase):
    def check(self, program, *rows):
        self.assertEqual(described(program), list(rows))

    def test_the_example(self):
        self.assertEqual(uses(EXAMPLE), [
            ((0, 3, 0), "field", None, 0), ((1, 1), "local", ((0,), 0), 0), ((2, 1, 0, 3, 0, 1, 0, 1), "upvalue", ((0,), 0), 1),
        ])

    def test_paths_in_reading_order(self):
        program = (
            put(("index", name("a"), name("b")), name("c")),
            ("set", (name("d"), name("e")), names("f", "g")),
            ("if", ((name("a"), (doing(name("b")),)), (name("c"), ())), (give(name("d")),)),
            ("repeat", (do(),), name("a")),
            ("for", "i", name("a"), name("b"), name("c"), (doing(name("i")),)),
            give(("table", (("item", name("a")), ("pair", name("b"), name("c")))), ("method", name("d"), "m", names("e"))),
        )
        self.assertEqual([path for path, _, _, _ in uses(program)], [
            (0, 1, 0, 1), (0, 1, 0, 2), (0, 2, 0), (1, 1, 0), (1, 1, 1), (1, 2, 0), (1, 2, 1), (2, 1, 0, 0), (2, 1, 0, 1, 0, 1, 2, 0),
            (2, 1, 1, 0), (2, 2, 0, 1, 0), (3, 2), (4, 2), (4, 3), (4, 4), (4, 5, 0, 1, 2, 0), (5, 1, 0, 1, 0, 1), (5, 1, 0, 1, 1, 1),
            (5, 1, 0, 1, 1, 2), (5, 1, 1, 1), (5, 1, 1, 3, 0),
        ])

    def test_labels_and_methods_are_no_names(self):
        self.check((("label", "a"), ("goto", "a"), doing(("method", NIL, "a", ()), ("string", "a"))))

    def test_local_is_in_scope_behind_itself(self):
        self.check((local("a", name("a")), give(name("a"))), ("a", "field", None, 0), ("a", "local", ((0,), 0), 0))
        self.check((local("a", function(give(name("a")))), give(name("a"))), ("a", "field", None, 1), ("a", "local", ((0,), 0), 0))
        self.check((local("a"), local("a", name("a")), give(name("a"))), ("a", "local", ((0,), 0), 0), ("a", "local", ((1,), 0), 0))

    def test_equal_names(self):
        self.check((local("a b a"), give(*names("a", "b"))), ("a", "local", ((0,), 2), 0), ("b", "local", ((0,), 1), 0))
        self.check((each("a a", give(name("a"))),), ("a", "local", ((0,), 1), 0))
        self.check((give(function(give(name("a")), params="a a")),), ("a", "local", ((0, 1, 0), 1), 0))

    def test_blocks_end(self):
        a = name("a")
        for block in (do(local("a")), loop(local("a")), when(local("a")), when(other=(local("a"),)), repeat(NIL, local("a")), count("a"),
                      each("a"), do(("localfun", "a", function()))):
            self.check((block, give(a)), ("a", "field", None, 0))
            self.check((local("a"), block, give(a)), ("a", "local", ((0,), 0), 0))
        self.check((("if", ((NIL, (local("a"),)), (a, (doing(a),))), (doing(a),)),), *[("a", "field", None, 0)] * 3)
        self.check((("while", a, (local("a"), doing(a))),), ("a", "field", None, 0), ("a", "local", ((0, 2, 0), 0), 0))
        self.check((do(local("a"), do(doing(a)), doing(a)), doing(a)), ("a", "local", ((0, 1, 0), 0), 0),
                   ("a", "local", ((0, 1, 0), 0), 0), ("a", "field", None, 0))

    def test_localfun(self):
        f = name("f")
        self.check((("localfun", "f", function(give(f))), give(f)), ("f", "upvalue", ((0,), 0), 1), ("f", "local", ((0,), 0), 0))
        self.check((("localfun", "f", function(give(f), params="f")),), ("f", "local", ((0, 2), 0), 0))

    def test_loops(self):
        a = name("a")
        self.check((("for", "a", a, a, a, (doing(a),)), doing(a)), *[("a", "field", None, 0)] * 3, ("a", "local", ((0,), 0), 0),
                   ("a", "field", None, 0))
        self.check((each("b a", doing(a), values=(a,)), doing(a)), ("a", "field", None, 0), ("a", "local", ((0,), 1), 0),
                   ("a", "field", None, 0))
        self.check((repeat(a, local("a"), doing(a)), doing(a)), ("a", "local", ((0, 1, 0), 0), 0), ("a", "local", ((0, 1, 0), 0), 0),
                   ("a", "field", None, 0))
        self.check((repeat(function(give(a)), local("a")),), ("a", "upvalue", ((0, 1, 0), 0), 1))
        self.check((repeat(a, do(local("a"))),), ("a", "field", None, 0))

    def test_functions(self):
        a = name("a")
        self.check((give(function(give(a), params="a"), a),), ("a", "local", ((0, 1, 0), 0), 0), ("a", "field", None, 0))
        self.check((local("a"), give(function(local("a"), give(a)), a)), ("a", "local", ((1, 1, 0, 3, 0), 0), 0), ("a", "local", ((0,), 0), 0))
        self.check((local("a"), give(function(doing(a), local("a"), give(a)))), ("a", "upvalue", ((0,), 0), 1),
                   ("a", "local", ((1, 1, 0, 3, 1), 0), 0))
        self.check((local("a"), local("f", function(give(a))), local("a")), ("a", "upvalue", ((0,), 0), 1))
        self.check((give(function(give(a))),), ("a", "field", None, 1))

    def test_through_several_functions(self):
        a = name("a")
        third = function(give(a))
        self.check((local("a"), give(function(give(function(give(third)))))), ("a", "upvalue", ((0,), 0), 3))
        self.check((give(function(give(function(give(third))), params="a")),), ("a", "upvalue", ((0, 1, 0), 0), 2))
        self.check((give(function(give(function(give(third), params="a")))),), ("a", "upvalue", ((0, 1, 0, 3, 0, 1, 0), 0), 1))
        self.check((give(function(give(function(give(third))))),), ("a", "field", None, 3))

    def test_targets(self):
        self.assertEqual(uses((local("a"), put(name("a")), put(name("b")))), [((1, 1, 0), "local", ((0,), 0), 0), ((2, 1, 0), "field", None, 0)])

    def test_env(self):
        env, z = name("_ENV"), name("z")
        self.check((give(env, z),), ("_ENV", "upvalue", None, 0), ("z", "field", None, 0))
        self.check((give(function(give(env, z))),), ("_ENV", "upvalue", None, 1), ("z", "field", None, 1))
        self.check((local("_ENV", env), give(env, z)), ("_ENV", "upvalue", None, 0), ("_ENV", "local", ((0,), 0), 0),
                   ("z", "field", ((0,), 0), 0))
        self.check((local("x _ENV"), give(function(give(env, z)))), ("_ENV", "upvalue", ((0,), 1), 1), ("z", "field", ((0,), 1), 1))
        self.check((give(function(give(z, function(give(z))), params="a _ENV"), z),), ("z", "field", ((0, 1, 0), 1), 0),
                   ("z", "field", ((0, 1, 0), 1), 1), ("z", "field", None, 0))
        self.check((count("_ENV", doing(z)), each("z _ENV", doing(z, name("y"))), ("localfun", "_ENV", function(give(z)))),
                   ("z", "field", ((0,), 0), 0), ("z", "local", ((1,), 0), 0), ("y", "field", ((1,), 1), 0), ("z", "field", ((2,), 0), 1))
        self.check((do(local("_ENV", z)), doing(z)), ("z", "field", None, 0), ("z", "field", None, 0))
        self.check((local("_ENV", marks=("const",)), put(z)), ("z", "field", ((0,), 0), 0))


class UpvaluePlacesTest(unittest.TestCase):
    def check(self, program, *rows):
        self.assertEqual(upvalue_places(program), list(rows))

    def test_the_example(self):
        self.check(EXAMPLE, [None], [((0,), 0)])

    def test_main(self):
        self.check((), [None])
        self.check((local("_ENV"), give(name("z"))), [None])
        self.check((give(name("z"), name("_ENV")),), [None])

    def test_in_the_order_of_reading(self):
        self.check((local("a b c"), give(function(give(*names("c", "a", "c", "z", "b", "y"))))), [None], [((0,), 2), ((0,), 0), None, ((0,), 1)])
        inner = function(give(*names("c", "b")))
        self.check((local("a b c"), give(function(doing(inner), give(*names("a", "b"))))), [None], [((0,), 2), ((0,), 1), ((0,), 0)],
                   [((0,), 2), ((0,), 1)])
        self.check((local("a b c"), give(function(give(*names("a", "b"), inner)))), [None], [((0,), 0), ((0,), 1), ((0,), 2)],
                   [((0,), 2), ((0,), 1)])

    def test_functions_in_the_order_of_reading(self):
        self.check((local("a", function(give(name("z")))), give(function(give(function(), function(give(name("a"))))), function())),
                   [None], [None], [((0,), 0)], [], [((0,), 0)], [])

    def test_through_several_functions(self):
        deep = function(give(function(give(function(give(name("a")))))))
        self.check((local("a"), give(deep)), [None], *[[((0,), 0)]] * 3)
        self.check((give(deep),), [None], [None], [None], [None])
        self.check((give(function(give(function(give(name("a"), name("b")))), params="a")),), [None], [None], [((0, 1, 0), 0), None])

    def test_equal_names_are_two_variables(self):
        self.check((local("a"), give(function(doing(name("a")), local("a"), give(function(give(name("a"))))))), [None], [((0,), 0)],
                   [((1, 1, 0, 3, 1), 0)])
        self.check((local("a"), do(local("a"), doing(function(give(name("a"))))), give(function(give(name("a"))))), [None],
                   [((1, 1, 0), 0)], [((0,), 0)])
        body = function(doing(name("a")), repeat(name("a"), local("a")))
        self.check((local("a"), give(body)), [None], [((0,), 0)])

    def test_fields(self):
        field = function(give(name("z")))
        self.check((local("_ENV"), give(field)), [None], [((0,), 0)])
        self.check((give(function(give(field), params="_ENV")),), [None], [], [((0, 1, 0), 0)])
        self.check((give(function(doing(name("z")), local("_ENV"), give(field))),), [None], [None], [((0, 1, 0, 3, 1), 0)])
        self.check((local("_ENV"), give(function(give(name("z"), name("_ENV"))))), [None], [((0,), 0)])

    def test_targets(self):
        self.check((local("a b"), give(function(("set", names("b", "z"), names("a"))))), [None], [((0,), 1), None, ((0,), 0)])

    def test_localfun_and_loops(self):
        self.check((("localfun", "f", function(give(name("f")))),), [None], [((0,), 0)])
        self.check((count("i", doing(function(give(name("i"))))), each("a b", doing(function(give(name("b")))))), [None], [((0,), 0)], [((1,), 1)])

    def test_captured_is_told_alike(self):
        program = (local("a b c", function(params="p")), give(function(give(name("b"), function(give(*names("p", "q"))), call(name("c"))), params="p q")))
        told = {where for row in upvalue_places(program) for where in row if where is not None}
        self.assertEqual(told, {(path, place) for path, place, _, _, is_captured in declarations(program) if is_captured})
        self.assertEqual(len(told), 4)


class NewListsTest(unittest.TestCase):
    def test_new_each_time(self):
        program = (local("a"), loop(("break",)), give(function(give(name("a")))))
        for ask in (declarations, uses, upvalue_places, jumps):
            first, second = ask(program), ask(program)
            self.assertEqual(first, second)
            self.assertIsInstance(first, list)
            first.append("more")
            self.assertNotEqual(first, ask(program))
        rows = upvalue_places(program)
        rows[1].append("more")
        rows[0].clear()
        self.assertEqual(upvalue_places(program), [[None], [((0,), 0)]])
        for ask in (declarations, uses, jumps):
            self.assertTrue(all(isinstance(row, tuple) for row in ask(program)))
        self.assertTrue(all(isinstance(row, list) for row in upvalue_places(program)))


if __name__ == "__main__":
    unittest.main()
