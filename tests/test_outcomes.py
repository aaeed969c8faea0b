"""[1], [72] to [74]: outcomes, their arguments, when they are equal; programs of all forms by both engines, at bounds of work that are drawn."""

import random
import unittest

from builders import real, refusal
from code_helper import END, main
from lua_text import program_of
from program_maker import made_programs
from run_helper import ENGINES, RunCase
from script_maker import ScriptMaker
from test_definitions import Maker
from test_memory import NO_LISTS
from upvalues.compiler import compile_program
from upvalues.errors import InvalidArgument, InvalidProgram, LimitExceeded
from upvalues.judge import check_code, is_paper, paper_of
from upvalues.programs import check_program
from upvalues.runs import Outcome, code_outcome, outcome

# What the programs of program_maker call; everything that is unknown is a new object.
SOFT = """
local n, turn, seen, full = 0, 0, setmetatable({}, {__mode = 'v'}), {}
local collect, print, kind, error, setmetatable = collect, print, kind, error, setmetatable
local function told(...)
  collect()
  local s = ''
  for i = 1, n do s = s .. (seen[i] and '1' or '0') end
  turn = turn + 1
  print(s, ...)
end
function obj() n = n + 1 local t = setmetatable({}, full) seen[n] = t return t end
local obj = obj
function probe(...) told('probe', kind((...))) return ... end
local function event(w)
  return function(...)
    told(w)
    local k = turn
    if w == 'close' then if k % 7 == 0 then error('closer ' .. k) end return end
    if w == 'eq' or w == 'lt' or w == 'le' then return k % 2 == 0 end
    if w == 'call' then if k % 4 == 0 then return end if k % 3 == 0 then return nil, k end return obj(), k, ... end
    if w == 'len' then return 3 end
    if k % 4 == 0 then return k end
    return obj()
  end
end
for _, w in ipairs({'index', 'newindex', 'add', 'sub', 'mul', 'div', 'idiv', 'mod', 'band', 'bor', 'bxor', 'shl', 'shr', 'unm', 'bnot', 'concat', 'len', 'eq',
  'lt', 'le', 'call', 'close'}) do full['__' .. w] = event(w) end
setmt, fail = setmetatable, error
setmetatable(_ENV, {__index = function(t, k) return obj() end})
"""


def run(program, engine, work):
    """All that is told of a run."""
    try:
        found = outcome(program, engine=engine, work=work)
    except LimitExceeded as error:
        return "limit", error.limit
    return found.end, found.log, found.work


class ArgumentsTest(unittest.TestCase):
    def invalid(self, *args, **more):
        with self.assertRaises(InvalidArgument) as caught:
            outcome(*args, **more)
        return caught.exception.part

    def test_wrong_engines(self):
        for engine in NO_LISTS + ["", "Walker", "machine ", b"walker", [], ("walker",)]:
            self.assertEqual(self.invalid((), engine=engine), "engine")
            self.assertEqual(self.invalid((), engine=engine, work=-1), "engine")
            with self.assertRaises(InvalidProgram):
                outcome([], engine=engine, work=-1)

    def test_wrong_work(self):
        for work in NO_LISTS + [-1, 10 ** 7 + 1, 10 ** 30, 1.0, "5", [], real(5.0)]:
            if work == 5 and type(work) is int:
                continue
            for engine in ENGINES:
                self.assertEqual(self.invalid((), engine=engine, work=work), "work")

    def test_what_is_no_program(self):
        for thing in NO_LISTS + [[], (5,), (("break",),)]:
            with self.assertRaises(InvalidProgram) as caught:
                outcome(thing)
            self.assertEqual((caught.exception.path, caught.exception.word), refusal(thing, check_program))

    def test_bounds_of_work(self):
        for engine in ENGINES:
            for work in (1, 10 ** 7):
                self.assertEqual(outcome((), engine=engine, work=work).work, 1)
            with self.assertRaises(LimitExceeded) as caught:
                outcome((), engine=engine, work=0)
            self.assertEqual(caught.exception.limit, 0)

    def test_what_is_taken_if_nothing_is_said(self):
        loop = program_of("for i = 1, 99999 do end")
        self.assertEqual(outcome(loop).work, 10 ** 5)
        with self.assertRaises(LimitExceeded) as caught:
            outcome(program_of("for i = 1, 100000 do end"))
        self.assertEqual(caught.exception.limit, 10 ** 5)
        with self.assertRaises(LimitExceeded) as caught:
            code_outcome([main(("round",), ("jump", 0))])
        self.assertEqual(caught.exception.limit, 10 ** 5)

    def test_by_name_and_by_position(self):
        self.assertEqual(outcome(program=(), engine="machine", work=5).work, 1)
        for args in (((), "walker"), ((), "walker", 5)):
            with self.assertRaises(TypeError):
                outcome(*args)


class OutcomeTest(RunCase):
    def test_the_example(self):
        one = ("op", "add", ("name", "x"), ("number", 1))
        step = ("localfun", "step", ("function", (), False, (("set", (("name", "x"),), (one,)), ("return", (("name", "x"),)))))
        call = ("call", ("name", "step"), ())
        program = (("local", ("x",), (None,), (("number", 5),)), step, ("call", ("call", ("name", "print"), (call, call))), ("return", (call,)))
        found = outcome(program, engine="machine")
        self.assertEqual([found.end, found.log, found.work, found == outcome(program)], [("done", [8]), [("6", "7")], 5, True])

    def test_attributes(self):
        found = outcome(program_of("print(1, 'x') print() return 1, nil, 'y'"))
        self.assertIsInstance(found, Outcome)
        self.assertEqual((found.end, found.log, found.work), (("done", [1, None, "y"]), [("1", "x"), ()], 3))
        self.assertIsInstance(found.end, tuple)
        self.assertIsInstance(found.end[1], list)
        self.assertEqual([type(row) for row in found.log], [tuple, tuple])
        self.assertEqual(outcome(program_of("error({})")).end, ("error", ("table", 2)))
        self.assertEqual(outcome(program_of("error()")).end, ("error", None))

    def test_equality(self):
        def of(text):
            return outcome(program_of(text))
        rows = ["", "print(1)", "print('1')", "print(1, 1)", "return 1", "return true", "return '1'", "return 1.0", "return nil", "return 0.0", "return -0.0",
                "return false", "return 0", "error(1)", "error(true)", "error('1', 0)", "local f = kind(1)", "return {}", "return print", "return kind",
                "return coroutine.running()", "error({})", "return 1, 2", "return 2, 1", "local t = {} return {}", "return 0/0"]
        same = [("print(1)", "print('1')")]
        for one in rows:
            for other in rows:
                answer = one == other or (one, other) in same or (other, one) in same
                self.assertIs(of(one) == of(other), answer, (one, other))
                self.assertIs(of(one) != of(other), not answer, (one, other))
        for thing in (None, 5, "x", ("done", []), of, object()):
            self.assertFalse(of("") == thing)
            self.assertTrue(of("") != thing)

    def test_changed_outcomes(self):
        one, other = outcome(program_of("print(1) return 5")), outcome(program_of("print(1) return 5"))
        self.assertTrue(one == other)
        one.log.append(())
        self.assertFalse(one == other)
        one.log.pop()
        one.end[1].append(6)
        self.assertFalse(one == other)

    def test_nothing_is_left_from_one_run_to_the_next(self):
        program = program_of("""
            print(x, many, kind(print), {}, function() end, coroutine.create(print), #coroutine)
            x = 1 print = nil coroutine.extra = 5 many = {}
            setmetatable(coroutine, {__len = function() return 7 end})
            setmetatable({}, {__gc = function() x = 2 end})
            local t = {1, 2} t[3] = 4
            return t, function() end, coroutine.wrap(collect)
        """)
        for engine in ENGINES:
            first = outcome(program, engine=engine)
            for _ in range(2):
                self.assertTrue(outcome(program, engine=engine) == first)
        codes = compile_program(program)
        kept = [code.all_parts() for code in codes]
        self.assertTrue(code_outcome(codes) == first)
        self.assertTrue(code_outcome(codes) == first)
        self.assertEqual([code.all_parts() for code in codes], kept)

    def test_lists_are_new(self):
        program = program_of("print(1) return 5")
        one, other = outcome(program), outcome(program)
        self.assertIsNot(one.log, other.log)
        self.assertIsNot(one.end[1], other.end[1])

    def test_compiled_code_tells_the_same(self):
        for seed in range(20):
            try:
                program = program_of(ScriptMaker(seed).text())
            except InvalidProgram:
                continue
            codes = compile_program(program)
            self.assertIsNone(check_code(codes))
            try:
                found = outcome(program, work=3000)
            except LimitExceeded:
                with self.assertRaises(LimitExceeded):
                    code_outcome(codes, work=3000)
                continue
            self.assertTrue(found == code_outcome(codes, work=3000))

    def test_deep_programs(self):
        # As deep as a program may be, 29 within one another, and many statements.
        node = ("number", 1)
        for _ in range(28):
            node = ("unary", "neg", node)
        self.check_program((("return", (node,)),), [1])
        block = (("return", (("number", 7),)),)
        for _ in range(28):
            block = (("do", block),)
        self.check_program(block, [7])
        # Each function stands in a return of the next one, until that is too deep.
        function = ("function", (), False, (("return", (("number", 3),)),))
        program = (("return", (("call", function, ()),)),)
        many = 0
        while refusal(program, check_program) is None:
            self.check_program(program, [3])
            function = ("function", (), False, (("return", (("call", ("paren", function), ()),)),))
            program = (("return", (("call", function, ()),)),)
            many += 1
        self.assertGreater(many, 5)
        self.check_program((("local", ("x",), (None,), ()),) * 60 + (("call", ("call", ("name", "kind"), (("nil",),))),) * 340, [])

    def check_program(self, program, end):
        for engine in ENGINES:
            self.assertEqual(outcome(program, engine=engine).end, ("done", end))

    def test_many_variables_and_upvalues(self):
        names = [f"v{at}" for at in range(40)]
        text = f"local {', '.join(names)} = {', '.join(str(at) for at in range(40))} local function f() return #{{{', '.join(names)}}}, v39 end return f()"
        self.check_values(text, 40, 39)
        names = [f"v{at}" for at in range(50)]
        self.check_values(f"local function f({', '.join(names)}, ...) return {names[-1]}, ... end return f({', '.join(str(at) for at in range(50))})", 49)


class ManyProgramsTest(unittest.TestCase):
    def agree(self, program, chance, most):
        """Both engines tell the same, with much work and with a bound that is drawn."""
        first = run(program, "walker", most)
        self.assertEqual(first, run(program, "machine", most))
        bound = chance.randint(0, most if first[0] == "limit" else first[2])
        self.assertEqual(run(program, "walker", bound), run(program, "machine", bound))
        return first

    def test_scripts(self):
        ends = {}
        logs = 0
        for seed in range(90):
            try:
                program = program_of(ScriptMaker(seed).text())
            except InvalidProgram:
                continue
            found = self.agree(program, random.Random(seed), 4000)
            end = found[0] if found[0] == "limit" else found[0][0]
            ends[end] = ends.get(end, 0) + 1
            logs += 0 if end == "limit" else len(found[1])
        self.assertGreater(ends["done"], 40)
        self.assertGreater(logs, 2000)

    def test_programs_with_objects_everywhere(self):
        before = program_of(SOFT)
        for seed, program in made_programs(80, 40000):
            self.agree(before + program, random.Random(seed), 2500)

    def test_programs_without_sense(self):
        ran = 0
        for seed in range(400):
            program = Maker(seed).block(0, False)
            if refusal(program, check_program) is None:
                self.agree(program, random.Random(seed), 300)
                ran += 1
        self.assertGreater(ran, 100)

    def test_papers_of_compiled_programs(self):
        for _, program in made_programs(15, 50000):
            codes = compile_program(program)
            self.assertIs(is_paper(codes, paper_of(codes)), True)

    def test_each_bound_of_a_program(self):
        text = """
            local c = setmetatable({}, {__close = function() end, __gc = function() end})
            local co = coroutine.wrap(function() for i = 1, 2 do local x <close> = c coroutine.yield(i) end end)
            for i = 1, 2 do do local y <close> = c co() end goto next ::next:: end
            collect()
            return pcall(error, 'x')
        """
        program = program_of(text)
        whole = outcome(program).work
        for work in range(whole + 2):
            found = [run(program, engine, work) for engine in ENGINES]
            self.assertEqual(found[0], found[1])
            self.assertEqual(found[0][0] == "limit", work < whole)


class EngineTest(unittest.TestCase):
    def test_code_without_a_program(self):
        self.assertTrue(code_outcome([main(END)]) == outcome(()))


if __name__ == "__main__":
    unittest.main()
