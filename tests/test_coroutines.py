"""[45] to [49]: coroutines, where they may yield, what cannot go on, errors within them, and closing them."""

import unittest

from run_helper import RunCase

CR = "local create, resume, yield, status, wrap, close = coroutine.create, coroutine.resume, coroutine.yield, coroutine.status, coroutine.wrap, coroutine.close\n"
CLOSER = CR + "local function closer(name) return setmetatable({}, {__close = function(t, e) print('close', name, e) end}) end\n"


class BasicsTest(RunCase):
    def test_values_go_in_and_out(self):
        self.check(CR + """
            local co = create(function(a, b, ...)
              print('begun', a, b, ...)
              print('back', yield(1, nil, 3))
              print('again', yield())
              return 'r', nil
            end)
            print(status(co))
            print(resume(co, 'x', nil, 'z'))
            print(status(co))
            print(resume(co, 5, nil))
            print(resume(co))
            print(status(co))
        """, ["suspended", "begun|x|nil|z", "true|1|nil|3", "suspended", "back|5|nil", "true", "again", "true|r|nil", "dead"])

    def test_numbers(self):
        self.check_values("local a = coroutine.create(print) local b = coroutine.wrap(print) local c = coroutine.create(print) return coroutine.running(), a, b, c",
                          ("thread", 0), ("thread", 1), ("function", 1), ("thread", 3))
        self.check_values("return tostring(coroutine.create(print)), tostring(coroutine.wrap(print)), tostring((coroutine.running()))",
                          "thread: 1", "function: 1", "thread: 0")

    def test_wrap(self):
        self.check(CR + """
            local f = wrap(function(a) local b, c = yield(a, 'y') return b, c end)
            print(f(1)) print(f(2, 3))
            print(kind(f), kind(create(print)))
            local g = wrap(function(...) while true do yield(...) end end)
            print(g(1, 2)) print(g()) print(select('#', g()))
        """, ["1|y", "2|3", "function|thread", "1|2", "1|2", "2"])

    def test_status_and_running(self):
        self.check(CR + """
            local main, is_main = coroutine.running()
            print(status(main), is_main)
            local outer, inner
            outer = create(function()
              print('outer', status(outer), status(main), status(inner), select(2, coroutine.running()), coroutine.running() == outer)
              resume(inner)
              print('outer', status(outer), status(inner))
            end)
            inner = create(function() print('inner', status(outer), status(inner), status(main)) yield() end)
            resume(outer)
            print(status(outer), status(inner), status(main))
        """, ["running|true", "outer|running|normal|suspended|false|true", "inner|normal|running|normal", "outer|running|suspended", "dead|suspended|running"])

    def test_functions_of_all_kinds(self):
        self.check(CR + """
            print(resume(create(rawlen), 'abc'))
            print(resume(create(pcall), error, 'x'))
            local co = create(yield)
            print(resume(co, 1, 2)) print(resume(co, 3)) print(status(co))
            print(resume(create(wrap(function(x) return x end)), 5))
            local deep = create(wrap(function(x) yield(x) return 'end' end))
            print(resume(deep, 6)) print(status(deep))
            print(resume(create(tostring), setmetatable({}, {__tostring = function() return 's' end})))
            print(resume(create(resume), create(function(x) return x end), 7))
        """, ["true|3", "true|false|x", "true|1|2", "true|3", "dead", "true|5", "true|6", "dead", "true|s", "true|true|7"])

    def test_rows(self):
        self.check_values(CR + """
            local function rows(out) for i = 1, 5 do out(i, i * i) end return 'end' end
            local s, t = '', ''
            rows(function(a, b) s = s .. a .. ',' .. b .. ' ' end)
            local co = create(rows)
            local ok, a, b = resume(co, yield)
            while status(co) == 'suspended' do t = t .. a .. ',' .. b .. ' ' ok, a, b = resume(co) end
            return s == t, a, status(co)
        """, True, "end", "dead")

    def test_one_that_is_never_resumed(self):
        self.check_values("local a = coroutine.create(error) return coroutine.create(error)", ("thread", 2))


class YieldTest(RunCase):
    def goes_through(self, body, rows):
        """A coroutine with a body that yields the numbers 1 and 2 somewhere, and prints what comes back."""
        self.check(CR + f"""
            local function y(...) return yield(...) end
            local co = create(function() {body} end)
            print(resume(co))
            print(resume(co, 'back'))
            print(status(co))
        """, rows)

    def test_out_of_calls(self):
        self.goes_through("local function f(x) local z = x + 0 return y(z) end return f(1), 5", ["true|1", "true|back|5", "dead"])
        self.goes_through("return y(1)", ["true|1", "true|back", "dead"])
        self.goes_through("return (y(1, 2))", ["true|1|2", "true|back", "dead"])
        self.goes_through("local t = {m = function(t, x) return x, y(x) end} return t:m(4)", ["true|4", "true|4|back", "dead"])
        self.goes_through("local t = {y(1), y} return #t", ["true|1", "true|2", "dead"])

    def test_out_of_events(self):
        for body, result in [
            ("{__add = E}", "t + 1"), ("{__sub = E}", "1 - t"), ("{__mul = E}", "t * 1"), ("{__div = E}", "t / 1"), ("{__mod = E}", "t % 1"), ("{__idiv = E}", "t // 1"),
            ("{__band = E}", "t & 1"), ("{__bor = E}", "t | 1"), ("{__bxor = E}", "t ~ 1"), ("{__shl = E}", "t << 1"), ("{__shr = E}", "1 >> t"),
            ("{__concat = E}", "t .. 'x'"), ("{__len = E}", "#t"), ("{__unm = E}", "-t"), ("{__bnot = E}", "~t"), ("{__index = E}", "t.x"), ("{__call = E}", "t(5)"),
        ]:
            self.goes_through(f"local t = setmetatable({{}}, {body.replace('E', 'function() return (y(1)) end')}) return ({result}), 7", ["true|1", "true|back|7", "dead"])
        for body, result in [("{__eq = E}", "t == s"), ("{__lt = E}", "t < s"), ("{__le = E}", "t <= 1"), ("{__lt = E}", "1 > t"), ("{__le = E}", "t >= 1")]:
            text = f"local m = {body.replace('E', 'function() return y(1) end')} local t, s = setmetatable({{}}, m), setmetatable({{}}, m) return {result}, not ({result})"
            self.check(CR + f"local function y(...) return yield(...) end local co = create(function() {text} end) print(resume(co)) print(resume(co, 5)) print(resume(co, nil))",
                       ["true|1", "true|1", "true|true|true"])
        self.goes_through("local t = setmetatable({}, {__newindex = function(t, k, v) rawset(t, k, y(v)) end}) t.x = 1 return t.x", ["true|1", "true|back", "dead"])

    def test_out_of_loops(self):
        self.goes_through("for k in function(s, c) if c == nil then return y(1) end end do print('round', k) end return 'r'", ["true|1", "round|back", "true|r", "dead"])
        self.goes_through("for i = 1, 1 do print(y(1)) end", ["true|1", "back", "true", "dead"])
        self.goes_through("while y(1) ~= 'back' do end return 'r'", ["true|1", "true|r", "dead"])
        self.goes_through("local n = 0 repeat n = n + 1 until y(n) == 'back' return n", ["true|1", "true|1", "dead"])
        self.goes_through("if y(1) then return 'yes' end", ["true|1", "true|yes", "dead"])
        self.goes_through("for i = y(1) and 1, 2 do print(i) end", ["true|1", "1", "2", "true", "dead"])

    def test_out_of_closers(self):
        c = "setmetatable({}, {__close = function(t, e) print('closer', e, y(1)) end})"
        for body in (f"do local x <close> = {c} end return 'r'", f"local x <close> = {c} return 'r'", f"while true do local x <close> = {c} break end return 'r'",
                     f"do local x <close> = {c} goto out end ::out:: return 'r'", f"for k in next, {{1}}, nil, {c} do end return 'r'",
                     f"for k in next, {{1}}, nil, {c} do return 'r' end"):
            self.goes_through(body, ["true|1", "closer|nil|back", "true|r", "dead"])
        self.goes_through(f"return pcall(function() local x <close> = {c} error('e', 0) end)", ["true|1", "closer|e|back", "true|false|e", "dead"])

    def test_out_of_pcall(self):
        self.goes_through("return pcall(yield, 1, 2)", ["true|1|2", "true|true|back", "dead"])
        self.goes_through("return pcall(pcall, y, 1)", ["true|1", "true|true|true|back", "dead"])
        self.goes_through("return pcall(function() y(1) error('e', 0) end)", ["true|1", "true|false|e", "dead"])

    def test_out_of_pairs(self):
        self.goes_through("local t = setmetatable({}, {__pairs = function() return y(1) end}) return pairs(t)", ["true|1", "true|back|nil|nil", "dead"])

    def test_out_of_an_inner_coroutine(self):
        self.goes_through("local co = create(function() local z = yield(5) return z end) resume(co) return y(1), resume(co, 6)", ["true|1", "true|back|true|6", "dead"])

    def test_walls(self):
        t = "local t = setmetatable({}, {__tostring = E, __index = E, __len = E}) "
        event = "function() print(coroutine.isyieldable()) return (select(2, pcall(yield, 1))) end"
        for call in ("tostring(t)", "print(t)", "unpack(t, 1, 1)", "ipairs(t)(t, 0)"):
            text = CR + f"{t.replace('E', event)} local co = create(function() print(coroutine.isyieldable()) local x = {call} print(coroutine.isyieldable()) end) resume(co)"
            found, _ = self.run_text(text)
            rows = [row for row in found.log if len(row) == 1 and row[0] in ("true", "false")]
            self.assertEqual(rows, [("true",), ("false",), ("true",)], call)
        # Behind a wall the error has the line of the statement that called yield.
        self.check(CR + "local t = setmetatable({}, {__tostring = function() @a yield(1) end}) print(resume(create(function() local x = tostring(t) end)))",
                   ["false|@a: attempt to yield across a native call"])
        self.check(CR + "local t = setmetatable({}, {__len = function() return (yield(1)) end}) print(resume(create(unpack), t))",
                   ["false|3: attempt to yield across a native call"])

    def test_walls_of_finalizers_and_close(self):
        self.check(CR + """
            local co = create(function()
              setmetatable({}, {__gc = function() print('gc', coroutine.isyieldable(), pcall(yield)) end})
              collect()
              print(coroutine.isyieldable())
              local inner = create(function() local x <close> = setmetatable({}, {__close = function() print('close', coroutine.isyieldable(), pcall(yield)) end}) yield() end)
              resume(inner)
              close(inner)
              print(coroutine.isyieldable())
            end)
            print(resume(co))
        """, ["gc|false|false|attempt to yield across a native call", "true", "close|false|false|attempt to yield across a native call", "true", "true"])

    def test_a_wall_stands_in_its_thread_only(self):
        self.check(CR + """
            local inner = create(function() print(coroutine.isyieldable()) yield('y') end)
            local t = setmetatable({}, {__tostring = function() return select(2, resume(inner)) end})
            print(resume(create(function() return tostring(t) end)))
        """, ["true", "true|y"])

    def test_the_main_one(self):
        self.check(CR + "print(coroutine.isyieldable(), pcall(yield, 1)) local t = setmetatable({}, {__tostring = function() yield() end}) print(pcall(tostring, t))",
                   ["false|false|attempt to yield from outside a coroutine", "false|4: attempt to yield from outside a coroutine"])
        self.check_error("@a coroutine.yield(1)", "@a: attempt to yield from outside a coroutine")


class RefusedTest(RunCase):
    def test_resume(self):
        self.check(CR + """
            local co = create(function() end)
            resume(co)
            print(resume(co))
            print(resume(co, 1))
            print(resume((coroutine.running())))
            local self
            self = create(function() print(resume(self)) resume(create(function() print(resume(self)) print(resume(self)) end)) end)
            print(resume(self))
            print(resume(self))
        """, ["false|cannot resume dead coroutine", "false|cannot resume dead coroutine", "false|cannot resume non-suspended coroutine",
              "false|cannot resume non-suspended coroutine", "false|cannot resume non-suspended coroutine", "false|cannot resume non-suspended coroutine", "true",
              "false|cannot resume dead coroutine"])

    def test_wrap(self):
        self.check(CR + """
            local f = wrap(function() end)
            f()
            @a print(pcall(function() @b f() end))
            print(pcall(f))
            local g
            g = wrap(function() @c g() end)
            @d print(pcall(function() @e g() end))
        """, ["false|@b: cannot resume dead coroutine", "false|cannot resume dead coroutine", "false|@e: @c: cannot resume non-suspended coroutine"])

    def test_rows_of_resumes(self):
        # The main thread is the first of a row; the 180th cannot resume any more.
        self.check(CR + """
            local depth = 1
            local last
            local function nest()
              depth = depth + 1
              local ok, why = resume(create(nest))
              if not ok then last = why end
            end
            resume(create(nest))
            print(depth, last)
        """, ["180|too many resumes"])

    def test_rows_of_wraps(self):
        self.check(CR + """
            local depth = 1
            local function nest() depth = depth + 1 @a wrap(nest)() end
            local ok, why = pcall(wrap(nest))
            print(depth, ok, kind(why))
            local f = wrap(function() end)
            local n = 1
            local function row() n = n + 1 if n == 180 then print(pcall(f)) f = nil else resume(create(row)) end end
            resume(create(row))
        """, ["180|false|string", "false|too many resumes"])

    def test_a_refused_coroutine_is_not_touched(self):
        self.check(CR + """
            local co = create(function() return 'fresh' end)
            local n = 1
            local function row() n = n + 1 if n == 180 then print(resume(co)) print(status(co)) else resume(create(row)) end end
            resume(create(row))
            print(resume(co))
            local dead = create(function() end) resume(dead)
            n = 1
            co = dead
            resume(create(row))
        """, ["false|too many resumes", "suspended", "true|fresh", "false|cannot resume dead coroutine", "dead"])

    def test_wrong_arguments(self):
        for name in ("create", "wrap"):
            for args, got in [("", "no value"), ("nil", "nil"), ("5", "number"), ("{}", "table"), ("setmetatable({}, {__call = print})", "table"), ("'x'", "string"),
                              ("coroutine.running()", "thread")]:
                self.check_error(f"@a coroutine.{name}({args})", f"@a: bad argument #1 to '{name}' (function expected, got {got})")
        for name in ("resume", "status", "close"):
            for args, got in [("", "no value"), ("nil", "nil"), ("print", "function"), ("{}, 1", "table"), ("true", "boolean")]:
                self.check_error(f"@a coroutine.{name}({args})", f"@a: bad argument #1 to '{name}' (coroutine expected, got {got})")
        self.check_values("return coroutine.running(5), coroutine.isyieldable(1, 2)", ("thread", 0), False)


class ErrorsTest(RunCase):
    def test_resume_tells_the_error(self):
        self.check(CR + """
            local co = create(function() @a error('why') end)
            print(resume(co)) print(status(co)) print(resume(co))
            co = create(function() yield() error({}) end)
            resume(co)
            local ok, e = resume(co)
            print(ok, kind(e))
            print(resume(create(error), nil))
            print(resume(create(error), 'bare'))
            print(resume(create(function() @n local x = nil + 1 end)))
        """, ["false|@a: why", "dead", "false|cannot resume dead coroutine", "false|table", "false|nil", "false|bare",
              "false|@n: attempt to perform arithmetic on a nil value"])

    def test_wrap_puts_a_second_line_ahead(self):
        self.check(CR + """
            local f = wrap(function() @a error('why') end)
            print(pcall(function() @b f() end))
            f = wrap(function() error('why', 0) end)
            print(pcall(function() @c f() end))
            f = wrap(function() error(5) end)
            print(pcall(function() f() end))
            f = wrap(function() @d error('why') end)
            print(pcall(f))
            f = wrap(function() @e wrap(function() @f error('deep') end)() end)
            print(pcall(function() @g f() end))
        """, ["false|@b: @a: why", "false|@c: why", "false|5", "false|@d: why", "false|@g: @e: @f: deep"])

    def test_the_example_of_two_lines(self):
        self.check_error("local f = coroutine.wrap(function() local x error('why') end) local a local b local c f()", "7: 3: why")

    def test_nothing_is_closed_by_an_error(self):
        self.check(CLOSER + """
            local co = create(function() local a <close> = closer('a') error('e', 0) end)
            print(resume(co))
            print('later')
            print(close(co))
            print(close(co))
        """, ["false|e", "later", "close|a|e", "false|e", "true"])

    def test_wrap_closes_at_once(self):
        self.check(CLOSER + """
            local thread
            local f = wrap(function() thread = coroutine.running() local a <close> = closer('a') local b <close> = closer('b') error('e', 0) end)
            print(pcall(f))
            print(status(thread), close(thread))
        """, ["close|b|e", "close|a|e", "false|e", "dead|true"])

    def test_an_error_in_a_closer_of_wrap(self):
        self.check(CR + """
            local f = wrap(function()
              local a <close> = setmetatable({}, {__close = function(t, e) print('a', e) end})
              local b <close> = setmetatable({}, {__close = function(t, e) print('b', e) @b error('new') end})
              @x error('old')
            end)
            print(pcall(function() @c f() end))
        """, ["b|@x: old", "a|@b: new", "false|@c: @b: new"])

    def test_errors_pass_through_the_resumes(self):
        self.check(CLOSER + """
            local inner = wrap(function() local i <close> = closer('inner') @a error('e') end)
            local outer = wrap(function() local o <close> = closer('outer') @b inner() end)
            print(pcall(function() @c outer() end))
        """, ["close|inner|@a: e", "close|outer|@b: @a: e", "false|@c: @b: @a: e"])

    def test_pcall_within(self):
        self.check(CR + "print(resume(create(function() print(pcall(error, 'x')) return 'on' end)))", ["false|x", "true|on"])


class CloseTest(RunCase):
    def test_suspended_ones(self):
        self.check(CLOSER + """
            local co = create(function() local a <close> = closer('a') do local b <close> = closer('b') yield() end end)
            resume(co)
            print(close(co)) print(status(co)) print(close(co)) print(resume(co))
            co = create(print)
            print(close(co), status(co), resume(co))
        """, ["close|b|nil", "close|a|nil", "true", "dead", "true", "false|cannot resume dead coroutine", "true|dead|false|cannot resume dead coroutine"])

    def test_frames_from_the_innermost_one(self):
        self.check(CLOSER + """
            local function inner() local c <close> = closer('c') yield() end
            local co = create(function() local a <close> = closer('a') pcall(function() local b <close> = closer('b') inner() end) end)
            resume(co)
            print(close(co))
            co = create(function() for k in next, {1}, nil, closer('each') do local x <close> = closer('x') yield() end end)
            resume(co)
            print(close(co))
        """, ["close|c|nil", "close|b|nil", "close|a|nil", "true", "close|x|nil", "close|each|nil", "true"])

    def test_a_value_whose_closer_was_called_is_not_closed_again(self):
        self.check(CLOSER + """
            local waits = setmetatable({}, {__close = function() print('begun') yield() print('no') end})
            local co = create(function() local a <close> = closer('a') local b <close> = waits end)
            resume(co)
            print(close(co))
            co = create(function() pcall(function() local a <close> = closer('a') local b <close> = waits error('e', 0) end) end)
            resume(co)
            print(close(co))
        """, ["begun", "close|a|nil", "true", "begun", "close|a|nil", "true"])

    def test_dead_ones(self):
        self.check(CR + """
            local co = create(function() end) resume(co)
            print(close(co)) print(close(co))
            co = create(error) resume(co, 'e')
            print(close(co)) print(close(co))
            co = create(error) resume(co)
            print(close(co)) print(close(co))
        """, ["true", "true", "false|e", "true", "false|nil", "true"])

    def test_errors_of_closers(self):
        self.check(CR + """
            local function bad(name) return setmetatable({}, {__close = function(t, e) print(name, e) error(name .. '!', 0) end}) end
            local function good(name) return setmetatable({}, {__close = function(t, e) print(name, e) end}) end
            local co = create(function() local a <close> = good('a') local b <close> = bad('b') local c <close> = good('c') yield() end)
            resume(co)
            print(close(co)) print(close(co))
            co = create(function() local a <close> = good('a') local b <close> = bad('b') local c <close> = bad('c') error('e', 0) end)
            resume(co)
            print(close(co)) print(close(co))
        """, ["c|nil", "b|nil", "a|b!", "false|b!", "true", "c|e", "b|c!", "a|b!", "false|b!", "true"])

    def test_what_a_closer_had_pending_itself(self):
        self.check(CLOSER + """
            local bad = setmetatable({}, {__close = function() local i <close> = closer('inner') error('new', 0) end})
            local co = create(function() local a <close> = closer('a') local b <close> = bad yield() end)
            resume(co)
            print(close(co))
        """, ["close|inner|new", "close|a|new", "false|new"])

    def test_those_that_go_on(self):
        self.check(CR + """
            local main = coroutine.running()
            @a print(pcall(function() @b close(main) end))
            local co
            co = create(function() @c close(co) end)
            print(resume(co))
            print(resume(create(function() @d close(main) end)))
            co = create(function() print(resume(create(function() @e close(co) end))) end)
            resume(co)
        """, ["false|@b: cannot close a running coroutine", "false|@c: cannot close a running coroutine", "false|@d: cannot close a normal coroutine",
              "false|@e: cannot close a normal coroutine"])

    def test_room_for_close(self):
        # Of 180 frames: the bottom, the main function, pcall, the functions f, and close with a closer.
        text = CLOSER + """
            local co = create(function() local a <close> = closer('a') yield() end)
            resume(co)
            local function f(n) if n > 0 then return (f(n - 1)) end @a return (close(co)) end
            print(pcall(f, DEPTH))
            print(status(co), close(co))
        """
        self.check(text.replace("DEPTH", "174"), ["close|a|nil", "true|true", "dead|true"])
        self.check(text.replace("DEPTH", "175"), ["true|false", "dead|true"])
        self.check(text.replace("DEPTH", "176"), ["false|@a: stack overflow", "close|a|nil", "dead|true"])

    def test_close_needs_no_room_if_nothing_is_pending(self):
        text = CR + "local co = create(function() yield() end) resume(co) local function f(n) if n > 0 then return (f(n - 1)) end return (close(co)) end print(pcall(f, 176))"
        self.check(text, ["true|true"])
        self.check(CR + "local f = wrap(function() error('x', 0) end) local function g(n) if n > 0 then return (g(n - 1)) end @a return (f()) end print(pcall(g, 176))",
                   ["false|@a: x"])
        # With a value to be closed there is no room for the closing of wrap.
        self.check(CLOSER + "local f = wrap(function() local c <close> = closer('c') error('x', 0) end)"
                   " local function g(n) if n > 0 then return (g(n - 1)) end @a return (f()) end print(pcall(g, 176))", ["false|@a: stack overflow"])

    def test_pending_values_of_a_lost_coroutine(self):
        self.check(CLOSER + "local co = create(function() local a <close> = closer('a') yield() end) resume(co) co = nil collect() print('end')", ["end"])


if __name__ == "__main__":
    unittest.main()
