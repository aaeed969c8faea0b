"""[39] to [44]: work, frames, tail calls, errors and their lines, pcall, variables to be closed, the main function."""

import unittest

from run_helper import RunCase

# A value to be closed that tells its name, and the error that it is given.
CLOSER = """
local function closer(name) return setmetatable({}, {__close = function(t, e) print('close', name, e) end}) end
"""


class WorkTest(RunCase):
    def test_calls(self):
        self.check_work("", 1)
        self.check_work("local function f() end f() f()", 3)
        self.check_work("rawlen('') kind(1)", 3)
        self.check_work("local t = setmetatable({}, {__call = function() end}) t()", 3)
        self.check_work("return rawlen('')", 2)
        self.check_work("local function f() end return f()", 2)

    def test_events_and_closers(self):
        self.check_work("local t = setmetatable({}, {__add = function() end}) local x = t + 1", 3)
        self.check_work("local t = setmetatable({}, {__add = rawequal}) local x = t + 1", 3)
        self.check_work("local t <close> = setmetatable({}, {__close = function() end})", 3)
        self.check_work("tostring(setmetatable({}, {__tostring = function() return 'x' end}))", 4)
        self.check_work("setmetatable({}, {__gc = function() end})", 3)
        self.check_work("setmetatable({}, {__gc = function() end}) collect()", 4)

    def test_coroutines(self):
        self.check_work("local co = coroutine.create(function() end) coroutine.resume(co) coroutine.resume(co)", 5)
        self.check_work("local f = coroutine.wrap(function() coroutine.yield() end) f() f()", 6)
        self.check_work("local co = coroutine.create(rawlen)", 2)
        self.check_work("coroutine.resume(coroutine.create(print), 1)", 4)

    def test_rounds(self):
        self.check_work("for i = 1, 10 do end", 11)
        self.check_work("for i = 1, 0 do end", 1)
        self.check_work("local n = 0 while n < 5 do n = n + 1 end", 6)
        self.check_work("while false do end", 1)
        self.check_work("local n = 0 repeat n = n + 1 until n == 5", 6)
        self.check_work("for i = 1, 10 do if i == 3 then break end end", 4)
        # ipairs, four calls of its function, and three rounds.
        self.check_work("for k in ipairs({1, 2, 3}) do end", 1 + 1 + 4 + 3)

    def test_gotos(self):
        self.check_work("goto x ::x::", 2)
        self.check_work("local n = 0 ::top:: n = n + 1 if n < 4 then goto top end", 4)
        self.check_work("for i = 1, 3 do goto continue ::continue:: end", 7)
        self.check_work("while true do break end", 2)

    def test_what_is_wrong_with_a_call_comes_behind_counting(self):
        self.check_work("pcall(rawlen)", 3)
        self.check_work("pcall(error)", 3)
        self.check_work("local function f() f = nil end pcall(f)", 3)
        self.check_work("pcall(nil)", 2)
        self.check_work("pcall(pcall)", 3)
        self.check_work("local function f() return 1 + f() end pcall(f)", 1 + 1 + 178)

    def test_the_bound_comes_ahead_of_all(self):
        # The second call would print; with less work nothing of it is done, and nothing can catch it.
        self.check_work("pcall(pcall, print, 'x')", 4)
        self.check_work("local t <close> = setmetatable({}, {__close = print}) pcall(error, 'x')", 5)

    def test_counting_a_goto_behind_its_closers(self):
        self.check_work("do local t <close> = setmetatable({}, {__close = function() end}) goto x end ::x::", 4)


class FramesTest(RunCase):
    deep = "local function f(n) if n > 0 then return 1 + f(n - 1) end return 0 end "

    def test_the_main_thread(self):
        # The bottom, the main function, and 178 of f.
        self.check_values(self.deep + "return 1 + f(177)", 178)
        self.check_error(self.deep + "return 1 + f(178)", "3: stack overflow")

    def test_under_pcall(self):
        # pcall is one more frame; the error is thrown in the topmost frame.
        self.check_values(self.deep + "return pcall(f, 176)", True, 176)
        self.check_values(self.deep + "return pcall(f, 177)", False, "3: stack overflow")
        self.check_values("local function f(n) if n > 0 then local ok, x = pcall(f, n - 1) return x end return 'end' end return (f(88))", "end")
        self.check_values("local function f(n) if n > 0 then local ok, x = pcall(f, n - 1) return x end return 'end' end return (f(89))", "stack overflow")

    def test_within_a_coroutine(self):
        self.check_values(self.deep + "return coroutine.resume(coroutine.create(f), 179)", True, 179)
        self.check_values(self.deep + "return coroutine.resume(coroutine.create(f), 180)", False, "3: stack overflow")
        self.check_values(self.deep + "return coroutine.wrap(function(n) return 0 + f(n) end)(178)", 178)
        # The frames of each thread are counted by themselves.
        self.check_values(self.deep + "local function g(n) if n > 0 then return 0 + g(n - 1) end return coroutine.wrap(f)(179) end return 0 + g(170)", 179)

    def test_functions_of_the_library_that_answer_at_once(self):
        self.check_values("local function f(n) if n > 0 then return 0 + f(n - 1) end return rawlen('abc') + 0 end return 0 + f(177)", 3)
        self.check_error("local function f(n) if n > 0 then return 0 + f(n - 1) end @a local x = pcall(rawlen, 'abc') end return 0 + f(177)",
                         "@a: stack overflow")

    def test_functions_of_the_library_that_wait(self):
        t = "local t = setmetatable({}, {__tostring = function() return 'x' end, __pairs = function() end, __index = function() end, __len = function() return 0 end}) "
        for call, works in [("tostring(t)", 2), ("print(t)", 2), ("pairs(t)", 2), ("unpack(t, 1, 1)", 2), ("unpack(t)", 2), ("ipairs(t)(t, 1)", 2),
                            ("pcall(kind, 1)", 1), ("collect()", 1), ("tostring(1)", 0), ("t[1]", 1), ("#t", 1)]:
            for left in range(3):
                # With so many frames left behind the topmost function of the program.
                depth = 177 - left
                text = t + f"local function f(n) if n > 0 then return 0 + (f(n - 1) or 0) end @a local x = {call} end return pcall(error), pcall(f, {depth - 1})"
                found, lines = self.run_text(text)
                ok = found.end[1][1] is True or "arithmetic" in str(found.end[1][2])
                self.assertEqual(ok or "stack overflow" not in str(found.end[1][2]), left >= works, (call, left, found.end))
                if not left >= works:
                    self.assertIn(found.end[1][2], ("stack overflow", f"{lines['a']}: stack overflow"))
                    self.assertEqual(found.end[1][2] == "stack overflow", left > 0, call)

    def test_errors_make_room(self):
        self.check_values("local function f() return 1 + f() end local ok, e = pcall(f) return ok, e, pcall(f)", False, "2: stack overflow", False, "2: stack overflow")


class TailCallsTest(RunCase):
    def test_tail_calls_without_end(self):
        self.check_values("local function f(n) if n == 0 then return 'end' end return f(n - 1) end return f(5000)", "end")
        self.check_values("local t = {} function f(n) if n == 0 then return 'end' end return t:m(n) end t.m = function(t, n) return f(n - 1) end return f(2000)", "end")
        self.check_values("local t = setmetatable({}, {__call = function(t, n) if n == 0 then return 'end' end return t(n - 1) end}) return t(1000)", "end")

    def test_what_is_none(self):
        for row in ("return (f(n - 1))", "return f(n - 1), 1", "return 1, f(n - 1)", "local x = f(n - 1) return x", "local x <close> = nil return f(n - 1)",
                    "for k in ipairs({1}) do return f(n - 1) end", "return f(n - 1) or nil", "return {f(n - 1)}"):
            found, _ = self.run_text(f"local function f(n) if n == 0 then return 'end' end {row} end return pcall(f, 300)")
            self.assertIs(found.end[1][0], False, row)
            self.assertIn("stack overflow", found.end[1][1], row)

    def test_in_a_for_and_in_blocks(self):
        for row in ("for i = 1, 2 do return f(n - 1) end", "do return f(n - 1) end", "while true do return f(n - 1) end", "repeat return f(n - 1) until true",
                    "if true then return f(n - 1) end", "do local y <close> = nil end return f(n - 1)", "local x <const> = 1 return f(n - 1)"):
            self.check_values(f"local function f(n) if n == 0 then return 'end' end {row} end return f(300)", "end")

    def test_the_frame_takes_the_place(self):
        # Level 2 of error is the frame below, which is no more the one of the tail call.
        self.check("""
            local function thrower() error('x', 2) end
            local function tail() return thrower() end
            local function whole() @c thrower() end
            local function caller(f) @a f() end
            print(pcall(caller, tail))
            print(pcall(caller, whole))
        """, ["false|@a: x", "false|@c: x"])

    def test_functions_of_the_library(self):
        self.check_values("local function f(...) return select('#', ...) end return f(1, nil, nil)", 3)
        self.check_values("local function f() return pcall(error, 'x') end return f()", False, "x")
        self.check_values("local function f() return coroutine.yield(1) end local co = coroutine.wrap(f) return co(), co(2, 3)", 1, 2, 3)
        # The frame stays while the library's function waits.
        self.check("local function f() @a return error('x', 1) end print(pcall(f)) local function g() @b return print(nil + 1) end print(pcall(g))",
                   ["false|@a: x", "false|@b: attempt to perform arithmetic on a nil value"])

    def test_errors_of_a_tail_call(self):
        self.check("local function f() local x @a return x() end print(pcall(f)) local function g() @b return f.x end print(pcall(g))",
                   ["false|@a: attempt to call a nil value", "false|@b: attempt to index a function value"])


# Rows of values, each the __call of the one ahead of it: row(many, last) is the first of so many tables.
ROWS = """
local function row(many, last)
  for k = 1, many do last = setmetatable({}, {__call = last}) end
  return last
end
"""
# Ways in which a program calls the value r; those of events call it with a table in which it is the event.
WAYS = [
    "@b r()", "@b local x = r()", "@b local x = {r()}", "@b return r(1, 2)", "do local c <close> = nil @b return r() end", "local t = {r = r} @b t:r()",
    "@b for k in r do end", "@b local x = setmetatable({}, {__add = r}) + 1", "@b local x = setmetatable({}, {__concat = r}) .. 'x'",
    "@b local x = -setmetatable({}, {__unm = r})", "@b local x = #setmetatable({}, {__len = r})", "@b local x = setmetatable({}, {__eq = r}) == {}",
    "@b local x = setmetatable({}, {__lt = r}) < 1", "@b do local c <close> = setmetatable({}, {__close = r}) end",
]


class CallRowsTest(RunCase):
    def check_way(self, way, made, told):
        self.check(ROWS + f"local r = {made} print(pcall(function() {way} end))", [f"false|@b: {told}"])

    def test_ways_to_call_a_row_that_ends_at_its_hundredth(self):
        for way in WAYS:
            self.check_way(way, "row(100, nil)", "attempt to call a table value")
            self.check_way(way, "row(99, 5)", "attempt to call a number value")
            self.check_way(way, "row(99, 'x')", "attempt to call a string value")

    def test_ways_to_call_a_row_that_is_too_long(self):
        for way in WAYS:
            for made in ("row(100, print)", "row(100, 5)", "row(101, nil)", "row(300, print)"):
                self.check_way(way, made, "'__call' chain too long; possibly a loop")

    def test_calls_by_functions_of_the_library(self):
        for way in ("pcall(r)", "coroutine.resume(coroutine.create(function() return pcall(r) end))", "pcall(tostring, setmetatable({}, {__tostring = r}))",
                    "pcall(pairs, setmetatable({}, {__pairs = r}))", "pcall(print, setmetatable({}, {__tostring = r}))",
                    "pcall(unpack, setmetatable({}, {__len = r}))"):
            for made, told in [("row(100, nil)", "attempt to call a table value"), ("row(99, true)", "attempt to call a boolean value"),
                               ("row(100, true)", "'__call' chain too long; possibly a loop")]:
                ahead = "true|" if "resume" in way else ""
                self.check(ROWS + f"local r = {made} print({way})", [f"{ahead}false|{told}"])

    def test_what_a_row_is_called_with(self):
        self.check(ROWS + """
            local function f(...) return select('#', ...), ... end
            local r = row(99, f)
            local many, first = r('x')
            print(many, first == r, select(100, r('x')) == r, select(101, r('x')))
        """, ["100|false|true|x"])

    def test_a_call_that_comes_to_nothing_is_no_work(self):
        # The main function, that of the rows with its rounds and calls, and pcall.
        for many, last in [(100, "nil"), (99, "5"), (100, "print")]:
            self.check_work(ROWS + f"local r = row({many}, {last}) pcall(r)", 1 + 1 + many + many + 1)
        self.check_work(ROWS + "local r = row(99, rawlen) pcall(r)", 1 + 1 + 99 + 99 + 1 + 1)


class ErrorsTest(RunCase):
    def test_lines_of_errors(self):
        self.check_error("@a local x = nil + 1", "@a: attempt to perform arithmetic on a nil value")
        self.check_error("@a error('x')", "@a: x")
        self.check_error("local function f() @a error('x') end f()", "@a: x")
        self.check_error("@a local x = rawlen(5)", "@a: bad argument #1 to 'rawlen' (table or string expected)")

    def test_none_without_a_function_of_the_program(self):
        self.check("print(pcall(error, 'x')) print(pcall(rawlen)) print(pcall(nil)) print(pcall(pcall)) print(pcall(pcall, error, 'y'))"
                   " print(pcall(coroutine.yield))",
                   ["false|x", "false|bad argument #1 to 'rawlen' (value expected)", "false|attempt to call a nil value",
                    "false|bad argument #1 to 'pcall' (value expected)", "true|false|y", "false|attempt to yield from outside a coroutine"])

    def test_levels(self):
        text = """
            local function f(level) @f error('x', level) end
            local function g(level) @g f(level) end
            @h print(pcall(g, LEVEL))
        """
        for level, told in [("nil", "@f: x"), ("1", "@f: x"), ("2", "@g: x"), ("3", "x"), ("4", "@h: x"), ("5", "x"), ("6", "x"), ("1000", "x"), ("0", "x"),
                            ("-1", "x"), ("-9223372036854775807", "x"), ("2.0", "@g: x")]:
            self.check(text.replace("LEVEL", level), ["false|" + told])

    def test_levels_in_a_coroutine(self):
        text = "local function f() @f error('x', LEVEL) end local function g() @g f() end print(coroutine.resume(coroutine.create(g)))"
        for level, told in [("1", "@f: x"), ("2", "@g: x"), ("3", "x"), ("4", "x")]:
            self.check(text.replace("LEVEL", level), ["false|" + told])

    def test_values_that_are_no_strings(self):
        self.check_error("error(5)", 5)
        self.check_error("error()", None)
        self.check_error("error(nil, 2)", None)
        self.check_error("error(true)", True)
        self.check_error("error({})", ("table", 2))
        self.check_error("error(print)", ("native", "print"))
        self.check_error("error('x', 0)", "x")
        self.check_error("error(1.5, 1)", self.run_text("return 1.5")[0].end[1][0])

    def test_pcall(self):
        self.check("""
            print(pcall(function(...) return ... end, 1, nil, 3))
            print(pcall(function() end))
            print(pcall(error, nil))
            print(pcall(error))
            print(pcall(error, 'x'))
            print(pcall(pcall, error, 'x'))
            print(pcall(function() @a error('deep') end))
            print(pcall(setmetatable({}, {__call = function(t, x) return x end}), 7))
            print(select('#', pcall(error)))
        """, ["true|1|nil|3", "true", "false|nil", "false|nil", "false|x", "true|false|x", "false|@a: deep", "true|7", "2"])

    def test_the_nearest_one_catches(self):
        self.check("""
            print(pcall(function()
              print('in', pcall(error, 'a', 0))
              error('b', 0)
            end))
        """, ["in|false|a", "false|b"])

    def test_an_error_ends_all(self):
        self.check("print(1) local function f() print(2) @a local x = nil .. '' print(3) end print(pcall(f)) print(4)",
                   ["1", "2", "false|@a: attempt to concatenate a nil value", "4"])

    def test_errors_of_events(self):
        self.check("""
            local m = {__add = 5, __index = function(t, k) @i error(k) end}
            local t = setmetatable({}, m)
            @a print(pcall(function() @b local x = t + 1 end))
            print(pcall(function() local x = t.key end))
        """, ["false|@b: attempt to call a number value", "false|@i: key"])


class ClosersTest(RunCase):
    def test_the_end_of_a_block(self):
        self.check(CLOSER + """
            do local a <close> = closer('a') local b <close> = closer('b') print('in') end
            print('out')
        """, ["in", "close|b|nil", "close|a|nil", "out"])

    def test_nil_and_false(self):
        self.check("local a <close> = nil local b <close> = false local c <close> print('ok')", ["ok"])

    def test_values_that_cannot_be_closed(self):
        for value in ("5", "true", "'x'", "{}", "print", "setmetatable({}, {})", "coroutine.create(print)"):
            self.check_error(f"@a local x <close> = {value}", "@a: variable got a non-closable value")
            self.check_error(f"@a for k in print, 1, 2, {value} do end", "@a: variable got a non-closable value")

    def test_an_error_of_the_mark_closes_the_others(self):
        self.check(CLOSER + "local a <close> = closer('a') @x local b <close> = 5", ["close|a|@x: variable got a non-closable value"],
                   ("@x: variable got a non-closable value",))

    def test_one_of_several_names(self):
        self.check(CLOSER + "do local a, b <close>, c = 1, closer('b'), 2 print(a, c) end print('end')", ["1|2", "close|b|nil", "end"])

    def test_loops(self):
        self.check(CLOSER + """
            for i = 1, 2 do local x <close> = closer(i) print('round', i) end
            local n = 0
            while n < 2 do n = n + 1 local x <close> = closer('w' .. n) end
            repeat local x <close> = closer('r') print('until') until true
        """, ["round|1", "close|1|nil", "round|2", "close|2|nil", "close|w1|nil", "close|w2|nil", "until", "close|r|nil"])

    def test_repeat_asks_ahead_of_its_closers(self):
        self.check(CLOSER + "local function ask(x) print('ask') return x end repeat local x <close> = closer('r') until ask(true) print('end')",
                   ["ask", "close|r|nil", "end"])

    def test_break(self):
        self.check(CLOSER + """
            for i = 1, 3 do
              local x <close> = closer('x' .. i)
              do local y <close> = closer('y' .. i) if i == 2 then break end end
            end
            print('end')
        """, ["close|y1|nil", "close|x1|nil", "close|y2|nil", "close|x2|nil", "end"])

    def test_goto(self):
        self.check(CLOSER + """
            local n = 0
            ::top::
            local a <close> = closer('a' .. n)
            do
              local b <close> = closer('b' .. n)
              n = n + 1
              if n < 2 then goto top end
            end
            do goto out end
            ::out::
            print('end')
        """, ["close|b0|nil", "close|a0|nil", "close|b1|nil", "end", "close|a1|nil"])

    def test_the_scope_of_the_label(self):
        self.check(CLOSER + """
            for i = 1, 2 do
              local a <close> = closer('a')
              ::here::
              local b <close> = closer('b')
              if i == 1 then i = 5 goto here end
              print('last')
              do break end
            end
        """, ["close|b|nil", "last", "close|b|nil", "close|a|nil"])

    def test_return(self):
        self.check(CLOSER + """
            local function f()
              local a <close> = closer('a')
              do
                local b <close> = closer('b')
                local x = 1
                return x, (function() print('made') x = 2 return 'v' end)()
              end
            end
            print(f())
        """, ["made", "close|b|nil", "close|a|nil", "1|v"])

    def test_the_end_of_a_function(self):
        self.check(CLOSER + "local function f() local a <close> = closer('a') print('in') end f() print('out')", ["in", "close|a|nil", "out"])

    def test_errors(self):
        self.check(CLOSER + """
            print(pcall(function()
              local a <close> = closer('a')
              local b <close> = closer('b')
              @x error('x')
            end))
            local function inner() local c <close> = closer('c') error('y', 0) end
            print(pcall(function() local d <close> = closer('d') inner() end))
            print(pcall(function() local d <close> = closer('d') error() end))
        """, ["close|b|@x: x", "close|a|@x: x", "false|@x: x", "close|c|y", "close|d|y", "false|y", "close|d|nil", "false|nil"])

    def test_errors_in_closers(self):
        self.check("""
            local function bad(name) return setmetatable({}, {__close = function(t, e) print('close', name, e) @c error(name) end}) end
            print(pcall(function() local a <close> = bad('a') local b <close> = bad('b') @x error('x') end))
            print(pcall(function() local a <close> = bad('a') local b <close> = bad('b') end))
            print(pcall(function() local a <close> = bad('a') return 1 end))
            print(pcall(function() do local a <close> = bad('a') end print('no') end))
        """, ["close|b|@x: x", "close|a|@c: b", "false|@c: a", "close|b|nil", "close|a|@c: b", "false|@c: a", "close|a|nil", "false|@c: a",
              "close|a|nil", "false|@c: a"])

    def test_what_a_closer_that_throws_has_pending(self):
        self.check(CLOSER + """
            local bad = setmetatable({}, {__close = function(t, e) local i <close> = closer('inner') print('bad', e) error('new', 0) end})
            print(pcall(function() local a <close> = closer('a') local b <close> = bad error('old', 0) end))
        """, ["bad|old", "close|inner|new", "close|a|new", "false|new"])

    def test_lines_of_closers(self):
        self.check("""
            local c = setmetatable({}, {__close = function() error('x', 2) end})
            local function try(f) print(pcall(f)) end
            @f try(function() @l local x <close> = c local y end)
            try(function() @d do local x <close> = c local y end local z end)
            try(function() local x <close> = c @r return 1 end)
            try(function() while true do local x <close> = c @b break end end)
            try(function() do local x <close> = c @g goto out end ::out:: end)
            try(function() @i for i = 1, 2 do local x <close> = c local y end end)
            try(function() @k for k in next, {1}, nil, c do local y end local z end)
            try(function() for k in next, {1}, nil, c do @m break end local z end)
            try(function() @n repeat local x <close> = c local y until true end)
            try(function() @q if nil then local y elseif true then local x <close> = c local y end local z end)
            try(function() @o if nil then local y else local x <close> = c local y end local z end)
            try(function() @w while (function() local y return true end)() do local x <close> = c local y end end)
            try(function() local x <close> = c error('y', 0) end)
        """, ["false|@f: x", "false|@d: x", "false|@r: x", "false|@b: x", "false|@g: x", "false|@i: x", "false|@k: x", "false|@m: x", "false|@n: x",
              "false|@q: x", "false|@o: x", "false|@w: x", "false|x"])

    def test_the_event_of_that_time(self):
        self.check("""
            local m = {__close = function() print('old') end}
            do local x <close> = setmetatable({}, m) m.__close = function(t, e, ...) print('new', kind(t), e, ...) end end
            print(pcall(function() @a do local x <close> = setmetatable({}, m) m.__close = nil end end))
            m.__close = 1
            m.__call = function(...) print('called', select('#', ...), kind((...)), select(3, ...)) end
            local keep
            do local x <close> = setmetatable({}, m) m.__close = nil end
        """, ["new|table|nil", "false|@a: attempt to call a table value", "called|3|table|nil"])

    def test_results_of_closers_are_dropped(self):
        self.check_values("local c = setmetatable({}, {__close = function() return 1, 2 end}) local function f() local x <close> = c return 5 end return f()", 5)

    def test_the_fourth_value_of_a_forin(self):
        self.check(CLOSER + """
            for k in next, {1, 2}, nil, closer('end') do local x <close> = closer('x' .. k) end
            for k in next, {1, 2}, nil, closer('break') do break end
            for k in next, {}, nil, closer('none') do end
            local function f() for k in next, {1}, nil, closer('return') do return 'r' end end
            print(f())
            print(pcall(function() for k in next, {1}, nil, closer('error') do error('x', 0) end end))
            print(pcall(function() for k in error, 'x', 0, closer('call') do end end))
            do for k in next, {1}, nil, closer('goto') do goto out end ::out:: end
        """, ["close|x1|nil", "close|x2|nil", "close|end|nil", "close|break|nil", "close|none|nil", "close|return|nil", "r", "close|error|x", "false|x",
              "close|call|x", "false|x", "close|goto|nil"])

    def test_inner_scopes_end_whole_ahead_of_outer_ones(self):
        # The closer of the inner scope sees that the outer one has not ended.
        self.check("""
            local seen
            local function spy(name) return setmetatable({}, {__close = function() print(name, seen) end}) end
            for k in next, {1}, nil, spy('hidden') do
              local o <close> = spy('outer')
              do local i <close> = setmetatable({}, {__close = function() print('inner') seen = 'inner done' end}) break end
            end
        """, ["inner", "outer|inner done", "hidden|inner done"])

    def test_closers_have_room_behind_an_overflow(self):
        self.check(CLOSER + "local function f() @f local x = f() end local function g() local c <close> = closer('c') f() end print((pcall(g)))",
                   ["close|c|@f: stack overflow", "false"])


class MainTest(RunCase):
    def test_results(self):
        self.check("return 1, 'x', nil", [], [1, "x", None])
        self.check("return", [], [])

    def test_closing_at_the_end(self):
        self.check(CLOSER + "local a <close> = closer('a') print('in') return 5", ["in", "close|a|nil"], [5])
        self.check(CLOSER + "local a <close> = closer('a') @x error('x')", ["close|a|@x: x"], ("@x: x",))
        self.check("local a <close> = setmetatable({}, {__close = function(t, e) @y error('y') end}) error('x')", [], ("@y: y",))
        self.check("local a <close> = setmetatable({}, {__close = function(t, e) @y error('y') end}) return 5", [], ("@y: y",))

    def test_it_is_called_without_arguments(self):
        self.check_values("return select('#', ...)", 0)

    def test_the_bottom_counts_as_a_frame(self):
        self.check_error("@a error('x', 2)", "x")
        self.check_error("@a error('x', 3)", "x")


if __name__ == "__main__":
    unittest.main()
