"""[69]: the form of code, and its words register, upvalue, jump, function, end."""

import unittest

from builders import INF, NAN, real
from code_helper import END, CodeCase, main, part_of, verdict
from test_memory import NO_LISTS
from upvalues import judge
from upvalues.code import Code
from upvalues.judge import check_code, is_paper, paper_of
from upvalues.numbers import Float
from upvalues.objects import Native
from upvalues.tables import Table

# One good instruction of each word, ahead of what it needs.
GOOD = [
    [("load", 0, 1), ("move", 1, 0)], [("load", 0, None)], [("upget", 0, 0)], [("upget", 0, 0), ("upset", 0, 0)],
    [("upget", 0, 0), ("get", 1, 0, 0)], [("upget", 0, 0), ("set", 0, 0, 0)], [("upget", 0, 0), ("self", 1, 0, "m")], [("table", 0, 1, 2)],
    [("table", 0, 0, 0), ("append", 0, 0, 1, 1, False)], [("load", 0, 1), ("op", 1, "add", 0, 0)], [("load", 0, 1), ("unary", 1, "neg", 0)],
    [("function", 0, 0)], [("jump", 1)], [("load", 0, 1), ("if", 0, 2)], [("load", 0, 1), ("unless", 0, 2)], [("round",)],
    [("load", 0, 1), ("load", 1, 1), ("load", 2, 1), ("forbegin", 0, 6), ("round",), ("fornext", 0, 4)],
    [("load", 0, 1), ("load", 1, 1), ("load", 2, 1), ("eachcall", 0, 1), ("eachnext", 0, 3)],
    [("upget", 0, 0), ("call", 0, 0, False, 1)], [("upget", 0, 0), ("tail", 0, 0, False)], [("return", 0, 0, False)], [("dots", 0, 2)],
    [("load", 0, None), ("mark", 0)], [("close", 0)],
]
WORDS = sorted({part[0] for parts in GOOD for part in parts})
JUNK = [None, True, False, -1, 1.5, "x", b"x", "", (), [], {}, set(), real(1.0), ("up", 0), Table(1), Native("f", None), 10 ** 30]


class HeadTest(CodeCase):
    def test_what_is_no_program_of_code(self):
        for act in (check_code, paper_of, lambda codes: is_paper(codes, [])):
            for thing in NO_LISTS + [[], (), [None], [main(END), 5], (main(END), [main(END)]), [main]]:
                self.assertEqual(verdict(thing, act), (None, None, "form"), thing)
        self.assertIsNone(check_code([main(END)]))
        self.assertIsNone(check_code((main(END),)))
        self.assertIsNone(check_code(codes=[main(END)]))

    def head(self, **changes):
        """What a second Code tells that has these parts changed."""
        parts = {"params": 1, "has_dots": False, "size": 4, "upvalues": [("up", 0)], "instructions": [END], "lines": [1], "lives": [4]}
        parts.update(changes)
        return verdict([main(END), Code(**parts)])

    def test_heads(self):
        self.assertIsNone(self.head())
        for name, good, bad in [
            ("params", [0, 4], [-1, 5, True, None, "1", 1.0, real(1.0), []]),
            ("size", [1, 2000], [0, -1, 2001, True, None, "4", real(4.0), {}]),
            ("has_dots", [True, False], [0, 1, None, "x", []]),
            ("upvalues", [[], [("up", 0), ("reg", 2000), ("up", 2000)]],
             [None, (), (("up", 0),), 5, [("up",)], [("up", 0, 0)], [["up", 0]], [("Up", 0)], [("up", -1)], [("up", 2001)], [("reg", 2001)], [("up", True)],
              [("up", None)], [(0, 0)], [([], 0)], [None], "up", {}]),
            ("instructions", [[END]], [[], None, (END,), "x", 5, [END, END]]),
            ("lines", [[0], [400]], [[], [1, 1], [-1], [401], [True], [None], ["1"], (1,), None, 5, [real(1.0)]]),
            ("lives", [[0], [4]], [[], [4, 4], [-1], [5], [False], [None], (4,), None, "4"]),
        ]:
            for thing in good:
                if name == "size":
                    self.assertIsNone(self.head(size=thing, lives=[thing]), (name, thing))
                else:
                    self.assertIsNone(self.head(**{name: thing}), (name, thing))
            for thing in bad:
                self.assertEqual(self.head(**{name: thing}), (1, None, "form"), (name, thing))

    def test_the_main_one(self):
        self.refused(None, main(END))
        for params, upvalues in [(1, [("up", 0)]), (0, []), (0, [("up", 1)]), (0, [("reg", 0)]), (0, [("up", 0), ("up", 0)])]:
            self.refused((0, None, "form"), part_of(END, params=params, upvalues=upvalues))

    def test_the_first_head_comes_ahead_of_all_instructions(self):
        bad = part_of(END, lines=[500])
        self.refused((1, None, "form"), main(("x",)), bad, bad)
        self.refused((2, None, "form"), main(("load", 9, 1), END), main(END), bad)

    def test_code_by_code(self):
        late = main(("move", 0, 1), END)
        self.refused((0, 0, "read"), late, main(("x",), END))
        self.refused((1, 0, "form"), main(END), main(("x",), END), main(("y",), END))
        self.refused((0, 1, "form"), main(("move", 0, 1), ("x",), END))


class FormTest(CodeCase):
    def test_good_instructions(self):
        self.assertEqual(len(WORDS), 26)
        for parts in GOOD:
            self.passes(*parts, END, size=6)

    def test_other_lengths(self):
        for parts in GOOD:
            at = len(parts) - 1
            for part in (parts[-1] + (0,), parts[-1] + (False,), parts[-1][:-1], parts[-1] + (None,)):
                self.word("form", *parts[:-1], part, END, size=6, at=at)

    def test_what_is_no_instruction(self):
        for thing in JUNK + [("x",), ("Load", 0, 1), (None,), ([],), (("load",), 0, 1), ["round"], [], ("",), (5, 0, 1), ("round", 0)]:
            self.word("form", thing, END, at=0)

    def test_each_part(self):
        for parts in GOOD:
            good = parts[-1]
            for place in range(1, len(good)):
                for thing in JUNK:
                    kept = {
                        "load": place == 2 and thing not in (b"x", 1.5) and not isinstance(thing, (tuple, list, dict, set, Table, Native)),
                        "dots": place == 2 and thing is None, "self": place == 3 and isinstance(thing, str),
                        "call": (place == 3 and isinstance(thing, bool)) or (place == 4 and thing is None),
                        "tail": place == 3 and isinstance(thing, bool), "return": place == 3 and isinstance(thing, bool),
                        "append": place == 5 and isinstance(thing, bool),
                    }.get(good[0], False)
                    is_great = type(thing) is int and thing > 0
                    if kept and not (good[0] == "load" and is_great):
                        continue
                    found = verdict([main(*parts[:-1], good[:place] + (thing,) + good[place + 1:], END, size=6)])
                    if is_great:
                        self.assertIn(found[2], ("form", "register", "upvalue", "jump", "function"), good)
                    else:
                        self.assertEqual(found, (0, len(parts) - 1, "form"), (good, place, thing))

    def test_constants(self):
        for value in (None, True, False, 0, -2 ** 63, 2 ** 63 - 1, real(0.5), INF, NAN, "", "x" * 200, "\x01~\x7e"):
            self.passes(("load", 0, value), END)
        for value in (2 ** 63, -2 ** 63 - 1, 0.5, "x" * 201, "\x00", "\x7f", "\xe9", b"x", (), [], Table(1), Native("f", None)):
            self.word("form", ("load", 0, value), END, at=0)
        for name in ("", "x" * 200):
            self.passes(("load", 0, 1), ("self", 0, 0, name), END)
        for name in ("x" * 201, "\x00", None, 5):
            self.word("form", ("load", 0, 1), ("self", 0, 0, name), END, at=1)

    def test_words_of_operators(self):
        for word in "add sub mul div floor mod band bor bxor shl shr concat eq ne lt le gt ge".split():
            self.passes(("load", 0, 1), ("op", 0, word, 0, 0), END)
            self.word("form", ("load", 0, 1), ("unary", 0, word, 0), END)
        for word in "neg not len bnot".split():
            self.passes(("load", 0, 1), ("unary", 0, word, 0), END)
            self.word("form", ("load", 0, 1), ("op", 0, word, 0, 0), END)
        for word in ("", "Add", "pow", None, 0, [], ("add",)):
            self.word("form", ("load", 0, 1), ("op", 0, word, 0, 0), END)
            self.word("form", ("load", 0, 1), ("unary", 0, word, 0), END)

    def test_numbers_at_their_bounds(self):
        self.passes(("table", 0, 400, 400), END)
        self.word("form", ("table", 0, 401, 0), END)
        self.word("form", ("table", 0, 0, 401), END)
        loads = [("load", at, 1) for at in range(402)]
        for last in (("return", 0, 400, False), ("tail", 0, 400, False)):
            self.passes(*loads, last, size=402)
            self.word("form", *loads, (last[0], 0, 401, False), size=402)
        self.passes(*loads, ("table", 401, 0, 0), ("append", 401, 0, 400, 400, False), END, size=402)
        self.word("form", *loads, ("append", 401, 0, 401, 1, False), END, size=402)
        self.word("form", *loads, ("append", 401, 0, 1, 401, False), END, size=402)
        self.passes(*loads, ("call", 0, 400, False, 0), END, size=402)
        self.passes(("load", 0, 1), ("call", 0, 0, False, 2000), END, size=2000)
        self.word("form", ("load", 0, 1), ("call", 0, 0, False, 2001), END, size=2000)
        self.passes(("dots", 0, 2000), END, size=2000)
        self.word("form", ("dots", 0, 2001), END, size=2000)
        self.passes(*loads[:3], ("eachcall", 0, 400), END, size=404)
        self.word("form", *loads[:3], ("eachcall", 0, 401), END, size=2000)


class RegisterTest(CodeCase):
    def check(self, needed, *parts):
        """The last of some parts needs so many registers."""
        self.passes(*parts, END, size=needed)
        self.word("register", *parts, END, size=needed - 1, at=len(parts) - 1)

    def test_each_word(self):
        self.check(3, ("load", 2, 1))
        self.check(3, ("load", 0, 1), ("move", 2, 0))
        self.check(1, ("upget", 0, 0))
        self.check(3, ("load", 0, 1), ("get", 2, 0, 0))
        self.check(3, ("load", 0, 1), ("op", 2, "add", 0, 0))
        self.check(3, ("load", 0, 1), ("unary", 2, "not", 0))
        self.check(3, ("load", 0, 1), ("self", 1, 0, "m"))
        self.check(3, ("table", 2, 0, 0))
        self.check(3, ("function", 2, 0))
        self.check(3, ("close", 2))
        self.check(4, ("load", 0, 1), ("call", 0, 0, False, 4))
        self.check(4, ("dots", 1, 3))
        self.check(6, *[("load", at, 1) for at in range(3)], ("eachcall", 0, 2))

    def test_what_is_read(self):
        for part in (("move", 0, 1), ("upset", 0, 1), ("get", 0, 1, 0), ("get", 0, 0, 1), ("set", 1, 0, 0), ("set", 0, 1, 0), ("set", 0, 0, 1),
                     ("self", 0, 2, "m"), ("op", 0, "add", 1, 0), ("op", 0, "add", 0, 1), ("unary", 0, "not", 1), ("if", 1, 0), ("unless", 1, 0), ("mark", 1),
                     ("append", 1, 0, 0, 1, False), ("call", 1, 0, False, 0), ("tail", 0, 1, False), ("append", 0, 0, 2, 1, False)):
            size = 2 if part[0] == "self" else 1
            self.word("register", ("load", 0, 1), part, END, size=size, at=1)

    def test_loops(self):
        three = [("load", at, 1) for at in range(3)]
        self.word("register", *three, ("forbegin", 0, 4), END, size=3, at=3)
        self.passes(*three, ("forbegin", 0, 4), END, size=4)
        self.word("register", *three, ("forbegin", 1, 4), END, size=4, at=3)
        self.word("register", *three, ("fornext", 0, 3), END, size=3, at=3)
        self.word("plan", *three, ("fornext", 0, 3), END, size=4, at=3)
        self.word("register", *three, ("eachcall", 0, 0), END, size=3, at=3)
        self.passes(*three, ("eachcall", 0, 0), END, size=4)
        self.word("register", *three, ("eachcall", 0, 1), END, size=4, at=3)
        self.passes(*three, ("eachcall", 0, 1), END, size=5)
        self.word("register", *three, ("eachnext", 0, 4), END, size=4, at=3)
        self.word("read", *three, ("eachnext", 0, 4), END, size=5, at=3)

    def test_without_registers(self):
        """return, dots and append need no register from first on, if there are none."""
        self.passes(("return", 4, 0, False), size=4)
        self.word("register", ("return", 5, 0, False), size=4)
        self.word("register", ("return", 4, 1, False), size=4)
        self.passes(("return", 0, 0, False), size=0)
        for wanted in (0, None):
            last = ("return", 0, 0, wanted is None)
            self.passes(("dots", 4, wanted), last, size=4)
            self.word("register", ("dots", 5, wanted), last, size=4)
        self.passes(("table", 0, 0, 0), ("append", 0, 4, 0, 1, False), END, size=4)
        self.word("register", ("table", 0, 0, 0), ("append", 0, 5, 0, 1, False), END, size=4)
        self.word("register", ("load", 0, 1), ("call", 4, 0, False, 0), END, size=4)

    def test_sizes_up_to_2000(self):
        self.passes(("load", 1999, 1), END, size=2000)
        self.word("register", ("load", 2000, 1), END, size=2000)
        self.word("register", ("load", 10 ** 40, 1), END, size=2000)
        self.word("register", ("call", 10 ** 40, 0, False, None), END, size=2000)


class PlacesTest(CodeCase):
    def test_upvalues(self):
        self.passes(("upget", 0, 0), END)
        self.word("upvalue", ("upget", 0, 1), END, at=0)
        self.word("upvalue", ("load", 0, 1), ("upset", 1, 0), END, at=1)
        three = part_of(("upget", 0, 2), END, upvalues=[("up", 0)] * 3)
        self.refused(None, main(("function", 0, 1), END), three)
        self.refused((1, 0, "upvalue"), main(END), part_of(("upget", 0, 3), END, upvalues=[("up", 0)] * 3))

    def test_jumps(self):
        self.passes(("jump", 1), END)
        for at in (2, 10 ** 30):
            self.word("jump", ("jump", at), END, at=0)
            for word in ("if", "unless"):
                self.word("jump", ("load", 0, 1), (word, 0, at + 1), END, at=1)
            for word in ("forbegin", "fornext", "eachnext"):
                self.word("jump", (word, 0, at), END, size=5, at=0)

    def test_functions(self):
        self.refused(None, main(("function", 0, 1), END), part_of(END))
        self.refused((0, 0, "function"), main(("function", 0, 2), END), part_of(END))
        self.refused((0, 0, "register"), main(("function", 4, 2), END), part_of(END))
        self.refused((0, 0, "function"), main(("function", 0, 10 ** 30), END))

    def test_upvalues_of_new_functions(self):
        function = [("load", 3, 1), ("function", 0, 1), END]
        self.refused(None, main(*function), part_of(END, upvalues=[("reg", 3), ("up", 0)]))
        self.refused((0, 1, "register"), main(*function), part_of(END, upvalues=[("reg", 4)]))
        self.refused((0, 1, "upvalue"), main(*function), part_of(END, upvalues=[("up", 1)]))
        self.refused((0, 1, "upvalue"), main(*function), part_of(END, upvalues=[("reg", 3), ("up", 1), ("reg", 4)]))
        self.refused((0, 1, "register"), main(*function), part_of(END, upvalues=[("reg", 3), ("reg", 4), ("up", 1)]))
        self.refused((0, 1, "read"), main(("load", 2, 1), *function[1:]), part_of(END, upvalues=[("reg", 3)]))

    def test_the_first_thing_wrong_with_an_instruction(self):
        self.word("register", ("upget", 9, 9), END)
        self.word("register", ("if", 9, 99), END)
        self.word("form", ("if", -1, 99), END)
        self.refused((0, 0, "register"), main(("function", 9, 9)))

    def test_the_last_one(self):
        for part in (("jump", 0), ("return", 0, 0, False)):
            self.word("loop" if part[0] == "jump" else None, part)
        self.passes(("load", 0, 1), ("tail", 0, 0, False))
        for parts in GOOD:
            if parts[-1][0] not in ("jump", "tail", "return"):
                jumps = ("if", "unless", "forbegin", "fornext", "eachnext")
                self.word("end", *[part[:2] + (0,) if part[0] in jumps else part for part in parts], size=6, at=len(parts) - 1)
        self.word("form", ("x",), at=0)
        self.word("register", ("load", 4, 1), at=0)

    def test_the_first_instruction_comes_ahead_of_ways(self):
        self.word("end", ("move", 0, 1), ("round",), at=1)

    def test_the_functions_stand_in_their_module(self):
        for act in (check_code, paper_of, is_paper):
            self.assertEqual(act.__module__, "upvalues.judge")
        self.assertTrue(callable(judge.check_code))
        self.assertIsInstance(Float(1, 0, 0), Float)


if __name__ == "__main__":
    unittest.main()
