"""[70]: what goes wrong on ways through code; each word, just so that it holds and just so that it does not."""

import random
import unittest

from code_helper import END, CodeCase, main, part_of, verdict
from code_maker import changed, some_codes
from lua_text import program_of
from model_judge import code_fault
from program_maker import made_programs
from script_maker import ScriptMaker
from upvalues.compiler import compile_program
from upvalues.errors import InvalidProgram
from upvalues.judge import paper_of

ONE = ("load", 0, 1)
THREE = [("load", at, 1) for at in range(3)]


class RowTest(CodeCase):
    def test_taken_but_not_left(self):
        for part in (("call", 0, 0, True, 0), ("tail", 0, 0, True), ("return", 0, 0, True), ("append", 0, 0, 0, 1, True)):
            self.word("row", ("load", 0, 1), part, END, at=1)
            self.word("row", ("load", 0, 1), ("dots", 1, None), ("round",), part, END, at=2)
            last = () if part[0] == "return" else (END,)
            self.passes(("load", 0, 1), ("dots", 1, None), part, *last)
            self.passes(("load", 0, 1), ("call", 0, 0, False, None), part if part[0] == "return" else ("return", 0, 0, True))

    def test_left_but_not_taken(self):
        for part in (("round",), ("load", 0, 1), ("move", 1, 0), ("jump", 3), ("dots", 0, None), ("dots", 0, 1), ("call", 0, 0, False, 0), ("close", 0),
                     ("return", 0, 0, False)):
            self.word("row", ("load", 0, 1), ("dots", 1, None), part, END, at=2)
        self.word("row", ("load", 0, 1), ("call", 0, 0, False, None), END, at=2)

    def test_on_some_way(self):
        # Place 4 is come to with an open row from 3, and without one from 2.
        self.word("row", ONE, ("move", 1, 0), ("if", 0, 4), ("dots", 2, None), ("return", 0, 0, True), at=4)
        self.word("row", ONE, ("move", 1, 0), ("if", 0, 4), ("dots", 2, None), ("return", 0, 0, False), at=4)
        self.word("row", ("load", 0, 1), ("dots", 1, None), ("if", 0, 3), END, at=2)
        self.passes(("dots", 0, None), ("return", 0, 0, True))

    def test_an_open_row_is_used_up(self):
        self.word("row", ("load", 0, 1), ("dots", 1, None), ("call", 0, 0, True, 0), ("return", 0, 0, True), at=3)
        self.passes(("load", 0, 1), ("dots", 1, None), ("call", 0, 0, True, None), ("return", 0, 0, True))


class ReadTest(CodeCase):
    def test_each_reading(self):
        parts = [("move", 3, 0), ("upset", 0, 0), ("get", 3, 0, 1), ("set", 0, 1, 2), ("self", 2, 0, "m"), ("append", 2, 0, 2, 1, False), ("op", 3, "eq", 0, 1),
                 ("unary", 3, "not", 0), ("if", 0, 0), ("unless", 0, 0), ("eachcall", 0, 0), ("call", 0, 2, False, 0), ("tail", 0, 2, False),
                 ("return", 0, 3, False), ("mark", 0), ("forbegin", 0, 0), ("eachnext", 0, 0)]
        reads = {"move": [0], "upset": [0], "get": [0, 1], "set": [0, 1, 2], "self": [0], "append": [0, 1, 2], "op": [0, 1], "unary": [0], "if": [0],
                 "unless": [0], "eachcall": [0, 1, 2], "call": [0, 1, 2], "tail": [0, 1, 2], "return": [0, 1, 2], "mark": [0], "forbegin": [0, 1, 2],
                 "eachnext": [4]}
        for part in parts:
            needed = reads[part[0]]
            for missing in [None] + needed:
                loads = [("load", at, 1) for at in needed if at != missing]
                if part[0] in ("if", "unless", "forbegin", "eachnext"):
                    part = part[:2] + (len(loads) + 1,)
                found = verdict([main(*loads, part, END, size=5)])
                if missing is None:
                    self.assertNotEqual(found and found[2], "read", part)
                else:
                    self.assertEqual(found, (0, len(loads), "read"), part)

    def test_captured_registers_are_read(self):
        inner = part_of(END, upvalues=[("reg", 1), ("up", 0)])
        self.refused((0, 1, "read"), main(("load", 0, 1), ("function", 2, 1), END), inner)
        self.refused(None, main(("load", 1, 1), ("function", 2, 1), END), inner)
        self.refused((0, 0, "read"), main(("function", 1, 1), END), inner)

    def test_close_and_fornext_read_none(self):
        self.passes(("close", 0), END)
        self.word("plan", ("fornext", 0, 0), END, size=4)

    def test_params(self):
        self.refused(None, main(END), part_of(("return", 0, 2, False), params=2))
        self.refused((1, 0, "read"), main(END), part_of(("return", 0, 3, False), params=2))

    def test_what_is_written(self):
        ready = [("load", 0, 1), ("load", 1, 1), ("load", 2, 1)]
        for parts, registers in [
            ([("move", 3, 0)], [3]), ([("load", 3, 1)], [3]), ([("upget", 3, 0)], [3]), ([("get", 3, 0, 0)], [3]), ([("self", 3, 0, "m")], [3, 4]),
            ([("table", 3, 0, 0)], [3]), ([("op", 3, "add", 0, 0)], [3]), ([("unary", 3, "len", 0)], [3]), ([("function", 3, 0)], [3]),
            ([("call", 2, 0, False, 3)], [3, 4]), ([("dots", 3, 2)], [3, 4]), ([("eachcall", 0, 2)], [4, 5]),
        ]:
            self.passes(*ready, *parts, *[("move", 0, at) for at in registers], END, size=7)
            for at in (3, 4, 5, 6):
                if at not in registers:
                    self.word("read", *ready, *parts, ("move", 0, at), END, size=7, at=4)
        self.word("read", ("load", 2, 1), ("call", 2, 0, False, None), ("return", 3, 1, True), at=2)

    def test_on_all_ways(self):
        self.word("read", ONE, ("if", 0, 3), ("load", 1, 1), ("return", 1, 1, False), at=3)
        self.passes(ONE, ("if", 0, 4), ("load", 1, 1), ("jump", 5), ("load", 1, 2), ("return", 1, 1, False))
        # Behind a jump back, too.
        self.word("read", ("round",), ONE, ("if", 0, 5), ("load", 1, 1), ("jump", 0), ("return", 1, 1, False), at=5)

    def test_the_value_of_a_loop(self):
        self.passes(*THREE, ("forbegin", 0, 7), ("round",), ("move", 4, 3), ("fornext", 0, 4), END, size=5)
        self.word("read", *THREE, ("forbegin", 0, 4), ("move", 4, 3), END, size=5, at=4)
        self.word("read", *THREE, ("forbegin", 0, 7), ("round",), ("fornext", 0, 4), ("move", 4, 3), ("move", 4, 3), END, size=5, at=7)
        # fornext writes where it goes to at: place 6 sees R[3] on both ways.
        self.passes(*THREE, ("forbegin", 0, 6), ("round",), ("fornext", 0, 4), END, size=5)

    def test_the_control_value(self):
        parts = [("load", 0, 1), ("load", 1, 1), ("load", 2, 1), ("eachcall", 0, 1)]
        self.passes(*parts, ("eachnext", 0, 6), END, ("move", 5, 2), END, size=6)
        parts = [("load", 4, 1), ("eachnext", 0, 3), END]
        self.passes(*parts, ("move", 5, 2), END, size=6)
        self.word("read", ("load", 4, 1), ("eachnext", 0, 3), ("move", 5, 2), ("move", 5, 2), END, size=6, at=2)

    def test_places_to_which_no_way_comes(self):
        self.passes(END, ("move", 0, 1), ("tail", 0, 0, True), END)
        self.passes(("jump", 2), ("move", 0, 1), END)
        self.word("form", END, ("move", 0, None), END)


class MarkTest(CodeCase):
    def test_marks(self):
        two = [("load", 0, None), ("load", 1, None), ("load", 2, None)]
        self.passes(*two, ("mark", 0), ("mark", 1), ("mark", 2), END)
        self.word("mark", *two, ("mark", 0), ("mark", 0), END, at=4)
        self.word("mark", *two, ("mark", 1), ("mark", 0), END, at=4)
        self.passes(*two, ("mark", 1), ("close", 1), ("mark", 0), ("mark", 1), END)
        self.passes(*two, ("mark", 1), ("close", 0), ("mark", 0), END)
        self.word("mark", *two, ("mark", 1), ("close", 2), ("mark", 0), END, at=5)

    def test_on_some_way(self):
        self.word("mark", ("load", 0, None), ("if", 0, 3), ("mark", 0), ("mark", 0), END, at=3)
        self.passes(("load", 0, None), ("if", 0, 4), ("mark", 0), ("close", 0), ("mark", 0), END)
        self.word("mark", ("load", 0, None), ("round",), ("mark", 0), ("jump", 1), at=2)

    def test_tail(self):
        self.word("tail", ("load", 0, None), ("mark", 0), ("tail", 0, 0, False), at=2)
        self.passes(("load", 0, None), ("mark", 0), ("close", 0), ("tail", 0, 0, False))
        self.word("tail", ("load", 0, None), ("load", 1, None), ("mark", 0), ("mark", 1), ("close", 1), ("tail", 0, 0, False), at=5)
        self.word("tail", ("load", 0, None), ("if", 0, 3), ("mark", 0), ("tail", 0, 0, False), at=3)


class PlanTest(CodeCase):
    def test_plans(self):
        self.word("plan", *THREE, ("fornext", 0, 3), END, at=3)
        self.passes(*THREE, ("forbegin", 0, 6), ("round",), ("fornext", 0, 4), END)
        # Where forbegin goes to at there is none.
        self.word("plan", *THREE, ("forbegin", 0, 5), ("round",), ("fornext", 0, 4), END, at=5)
        # Behind a fornext that did not go on there is none.
        self.word("plan", *THREE, ("forbegin", 0, 7), ("round",), ("fornext", 0, 4), ("fornext", 0, 7), END, at=6)
        self.word("plan", *THREE, ("load", 3, 1), ("forbegin", 1, 8), ("round",), ("load", 3, 1), ("fornext", 0, 5), END, size=5, at=7)

    def test_plans_begun_anew(self):
        self.passes(*THREE, ("forbegin", 0, 8), ("round",), ("forbegin", 0, 8), ("round",), ("fornext", 0, 6), END)
        self.word("plan", *THREE, ("forbegin", 0, 7), ("round",), ("forbegin", 0, 6), ("fornext", 0, 4), END, at=6)

    def test_plans_of_other_registers(self):
        four = THREE + [("load", 3, 1)]
        self.passes(*four, ("forbegin", 1, 7), ("round",), ("fornext", 1, 5), END, size=5)
        self.word("plan", *four, ("forbegin", 1, 8), ("round",), ("fornext", 1, 5), ("fornext", 0, 8), END, size=5, at=7)
        self.word("plan", *four, ("forbegin", 1, 8), ("round",), ("fornext", 1, 5), ("fornext", 1, 8), END, size=5, at=7)

    def test_it_stays_where_fornext_goes_on(self):
        self.passes(*THREE, ("forbegin", 0, 7), ("round",), ("fornext", 0, 4), END, END)


class LiveTest(CodeCase):
    def last(self, part, kept, live):
        """A part that leaves so many registers live, behind which a register is read."""
        loads = [("load", at, 1) for at in range(5)]
        return verdict([main(*loads, part, ("return", kept, 1, False), size=7, lives=[7] * 5 + [live, 7])])

    def test_each_word(self):
        for part in (("get", 6, 0, 0), ("set", 0, 0, 0), ("self", 5, 0, "m"), ("op", 6, "eq", 0, 0), ("unary", 6, "neg", 0), ("unary", 6, "len", 0),
                     ("unary", 6, "bnot", 0), ("call", 0, 0, False, 0), ("call", 0, 0, False, 1), ("eachcall", 0, 0), ("close", 5)):
            self.assertIsNone(self.last(part, 4, 5), part)
            self.assertEqual(self.last(part, 4, 4), (0, 5, "live"), part)
            self.assertEqual(self.last(part, 4, 0), (0, 5, "live"), part)
        for part in (("move", 6, 0), ("load", 6, 1), ("unary", 6, "not", 0), ("table", 6, 0, 0), ("function", 6, 0), ("upget", 6, 0), ("upset", 0, 0),
                     ("mark", 0), ("round",), ("dots", 6, 1), ("jump", 6), ("if", 0, 6), ("forbegin", 0, 6), ("append", 0, 0, 0, 1, False)):
            self.assertIsNone(self.last(part, 4, 0), part)

    def test_what_is_written_by_itself(self):
        self.assertIsNone(self.last(("get", 4, 0, 0), 4, 0))
        self.assertIsNone(self.last(("op", 4, "add", 0, 0), 4, 0))
        self.assertIsNone(self.last(("call", 3, 0, False, 2), 4, 0))
        self.assertEqual(self.last(("call", 3, 0, False, 1), 4, 0), (0, 5, "live"))
        self.assertIsNone(self.last(("eachcall", 0, 1), 4, 0))
        self.assertIsNone(self.last(("self", 4, 0, "m"), 4, 0))

    def test_the_object_of_self_is_to_be_kept(self):
        self.assertEqual(self.last(("self", 3, 0, "m"), 4, 4), (0, 5, "live"))
        self.assertIsNone(self.last(("self", 3, 0, "m"), 4, 5))

    def test_asking_needs_no_value(self):
        for word in ("if", "unless"):
            self.passes(("load", 0, 1), ("close", 0), (word, 0, 3), END, lives=[0] * 4)
            self.word("live", ("load", 0, 1), ("close", 0), (word, 0, 3), ("return", 0, 1, False), lives=[0] * 4, at=1)
        self.word("live", ("load", 0, 1), ("close", 0), ("unary", 1, "not", 0), END, lives=[0] * 4, at=1)

    def test_later_and_ahead_of_being_written(self):
        self.passes(("load", 0, 1), ("load", 1, 1), ("call", 0, 0, False, 1), ("load", 1, 2), ("return", 1, 1, False), lives=[2, 2, 0, 0, 0])
        self.word("live", ("load", 0, 1), ("load", 1, 1), ("call", 0, 0, False, 1), ("if", 0, 5), ("load", 1, 2), ("return", 1, 1, False),
                  lives=[2, 2, 0, 0, 0, 0], at=2)
        # It is read on the way back to the beginning.
        self.word("live", ("load", 0, 1), ("load", 1, 1), ("round",), ("move", 2, 1), ("call", 0, 0, False, 1), ("jump", 2), lives=[1] * 6, at=4)

    def test_captured_registers(self):
        inner = part_of(END, upvalues=[("reg", 1)])
        parts = [("load", 0, 1), ("load", 1, 1), ("call", 0, 0, False, 1), ("function", 2, 1), END]
        self.refused((0, 2, "live"), main(*parts, lives=[1] * 5), inner)
        self.refused(None, main(*parts, lives=[2] * 5), inner)

    def test_what_return_and_tail_read(self):
        self.passes(("load", 0, 1), ("tail", 0, 0, False), lives=[0, 0])
        self.passes(("load", 0, 1), ("mark", 0), ("return", 0, 1, False), lives=[0, 0, 0])


class LoopTest(CodeCase):
    def test_loops(self):
        self.word("loop", ("jump", 0), at=0)
        self.word("loop", ONE, ("if", 0, 0), END, at=0)
        self.word("loop", ONE, ("if", 0, 1), END, at=1)
        self.word("loop", ONE, ("unless", 0, 0), END, at=0)
        self.word("loop", *THREE, ("forbegin", 0, 6), ("move", 0, 0), ("fornext", 0, 4), END, at=4)
        self.word("loop", ("load", 4, 1), ("eachnext", 0, 0), END, size=5, at=0)

    def test_what_counts(self):
        for part in (("round",), ("call", 0, 0, False, 0), ("eachcall", 0, 0)):
            self.passes(*THREE, part, ("jump", 3))
            self.passes(*THREE, ("if", 0, 5), part, part, ("jump", 3))
        for part in (("get", 3, 0, 0), ("op", 3, "add", 0, 0), ("close", 0), ("unary", 3, "len", 0), ("set", 0, 0, 0), ("function", 3, 0)):
            self.word("loop", *THREE, part, ("jump", 3), at=3)

    def test_one_way_is_enough(self):
        self.word("loop", *THREE, ("if", 0, 5), ("round",), ("jump", 3), at=3)

    def test_a_place_that_only_leads_to_a_loop(self):
        self.word("loop", ONE, ("move", 1, 0), ("move", 1, 0), ("jump", 2), at=2)
        # 2 lies between two rings, but in none of them.
        self.word("loop", ONE, ("jump", 3), ("jump", 5), ("if", 0, 3), ("jump", 2), ("jump", 5), at=3)

    def test_no_way_comes(self):
        self.passes(END, ("jump", 1))


class OrderTest(CodeCase):
    def test_the_least_place(self):
        self.word("read", ("move", 0, 1), ("jump", 1), at=0)
        self.word("loop", ONE, ("jump", 1), at=1)
        # The second place is come to first, but is not the least one.
        self.word("read", ("jump", 2), ("move", 0, 1), ("move", 0, 2), ("jump", 1), at=1)

    def test_the_first_word(self):
        self.word("row", ("return", 0, 1, True), at=0)
        self.word("read", ("dots", 0, None), ("return", 0, 1, True), at=1)
        self.word("read", ("mark", 0), END, at=0)
        self.word("read", ("tail", 0, 0, False), at=0)
        self.word("read", ("load", 0, 1), ("mark", 0), ("tail", 1, 0, False), at=2)
        self.word("read", ("if", 0, 0), END, at=0)
        self.word("live", ("load", 0, 1), ("op", 1, "add", 0, 0), ("jump", 1), lives=[0] * 3, at=1)
        self.word("plan", ("fornext", 0, 0), END, at=0)


class ManyCodesTest(CodeCase):
    def test_many_codes(self):
        words = {}
        good = [compile_program(program) for _, program in made_programs(8, 77)]
        for seed in range(2):
            try:
                good.append(compile_program(program_of(ScriptMaker(seed).text())))
            except InvalidProgram:
                continue
        for seed in range(2500):
            chance = random.Random(seed)
            codes = some_codes(chance) if chance.random() < 0.5 else changed(chance, chance.choice(good[:8] if chance.random() < 0.97 else good))
            found = verdict(codes)
            self.assertEqual(found, code_fault(codes), seed)
            self.assertEqual(verdict(codes, paper_of), found)
            word = found and found[2]
            words[word] = words.get(word, 0) + 1
        self.assertGreater(words[None], 200)
        self.assertLessEqual({"form", "register", "upvalue", "end", "row", "read", "plan", "live", "loop"}, set(words))

    def test_compiled_programs_pass(self):
        for seed in range(12):
            try:
                program = program_of(ScriptMaker(seed).text())
            except InvalidProgram:
                continue
            self.assertIsNone(verdict(compile_program(program)))


if __name__ == "__main__":
    unittest.main()
