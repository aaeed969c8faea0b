"""[38], [58] to [60]: what is live when collect is called, marks, finalizers, and the end of a run."""

import unittest

from run_helper import RunCase
from upvalues.errors import LimitExceeded
from upvalues.runs import outcome
from lua_text import program_of

# look() collects, and prints the names of the objects that are left; it returns nothing.
LOOK = """
local w = setmetatable({}, {__mode = 'v'})
local names = {}
local function note(name, value) w[name] = value names[#names + 1] = name return value end
local function new(name) return note(name, {}) end
local function fun(name, f) return note(name, function(...) return f(...) end) end
local function look()
  collect()
  local s = ''
  for i = 1, #names do if w[names[i]] then s = s .. names[i] end end
  print(s)
end
local function closer(name) return note(name, setmetatable({}, {__close = function(t) look() end})) end
local function id(...) return ... end
"""


class LiveTest(RunCase):
    def looks(self, text, *rows):
        """What look prints in a text; behind it, nothing of the text is left."""
        self.check(LOOK + "local function run(...) " + text + " end run() look()", list(rows) + [""])

    def test_variables(self):
        self.looks("local a = new('a') look()", "a")
        self.looks("local a = new('a') a = nil look()", "")
        self.looks("local a = new('a') do local b = new('b') look() end look()", "ab", "a")
        self.looks("local a, b = new('a'), new('b') local a = new('c') look()", "abc")
        self.looks("do local a = new('a') end do local b look() end", "")
        self.looks("for i = 1, 2 do local a = new('a' .. i) look() end look()", "a1", "a2", "")
        self.looks("local a = new('a') local f = function() return a end a = 5 look()", "")
        self.looks("local a = new('a') if true then local b = new('b') look() else local c = new('c') end look()", "ab", "a")

    def test_parameters_and_dots(self):
        self.looks("local function f(a) look() end f(new('a'))", "a")
        self.looks("local function f() look() end f(new('a'))", "")
        self.looks("local function f(...) look() end f(new('a'), new('b'))", "ab")
        self.looks("local function f(a, ...) a = nil look() end f(new('a'), new('b'))", "b")
        self.looks("local function f(a) look() end f(1, new('b'))", "")

    def test_operands(self):
        self.looks("local x = new('a') == look()", "a")
        self.looks("local x = look() == new('a')", "")
        self.looks("local x = new('a') ~= (new('b') == look())", "ab")
        self.looks("local x = (new('a') == new('b')) == look()", "")
        self.looks("local x = new('a')[look()]", "a")
        self.looks("local x = not look()", "")
        self.looks("local x = ({n = new('a')}).n == look()", "a")

    def test_and_or(self):
        self.looks("local x = new('a') and look()", "")
        self.looks("local x = nil or look()", "")
        self.looks("local x = (new('a') or look()) == look()", "a")
        self.looks("local x = (new('a') and new('b')) == look()", "b")

    def test_calls(self):
        self.looks("id(new('a'), look())", "a")
        self.looks("id(new('a'), (look()))", "a")
        self.looks("fun('f', id)(look())", "f")
        self.looks("fun('f', look)()", "")
        self.looks("note('f', function() look() end)()", "f")
        self.looks("local t = {m = id} t:m(new('a'), look())", "a")
        self.looks("note('o', {m = id}):m(look())", "o")
        self.looks("id(new('a')) look()", "")
        self.looks("look(new('a'))", "")
        self.looks("collect(new('a')) look()", "")
        self.looks("id(id(new('a')), look())", "a")

    def test_the_function_of_a_frame(self):
        self.looks("note('f', function() look() end)()", "f")
        self.looks("local u = new('u') note('f', function() look() return u end)()", "uf")

    def test_lists(self):
        self.looks("local x, y = new('a'), look() look()", "a", "a")
        self.looks("local x = 1, new('a'), look() look()", "a", "")
        self.looks("local x = new('a'), look() look()", "a", "a")
        self.looks("return new('a'), look()", "a")
        self.looks("local x, y x, y = new('a'), look() look()", "a", "a")

    def test_the_parts_of_a_set(self):
        self.looks("new('a')[1], new('b')[2] = new('c'), look()", "abc")
        self.looks("new('a')[new('k')] = look()", "ak")
        self.looks("local t = setmetatable({}, {__newindex = function() look() end}) t.x, t.y = new('a'), new('b')", "ab", "ab")
        self.looks("local t = setmetatable({}, {__newindex = function() look() end}) local x t.x, x, new('c').z = new('a'), new('b'), 5 x = nil", "cab")

    def test_tables(self):
        self.looks("local t = {new('a'), look(), k = look(), new('b'), look()}", "a", "a", "ab")
        self.looks("local t = {[new('k')] = look()}", "k")
        self.looks("local t = {x = new('x'), look()}", "x")
        self.looks("local t = note('t', {look()})", "")
        items = ", ".join(["1"] * 49)
        self.looks(f"local t = {{new('a'), {items}, look(), new('b'), look()}} t = nil", "a", "ab")
        self.looks("local t = {id(new('a'), new('b')), look()}", "a")

    def test_events(self):
        self.looks("local m = {__add = function(x) x = nil look() end} local x = setmetatable(new('a'), m) + 1", "")
        self.looks("local m = {__add = function(x) look() end} local x = setmetatable(new('a'), m) + 1", "a")
        self.looks("local m = {__add = function(x) x = nil look() end} local x = new('b') == setmetatable(new('a'), m) + 1", "b")
        self.looks("local m = {__index = function(t) t = nil look() return id end} setmetatable(new('a'), m):x(new('b'))", "a")
        self.looks("local m = {__index = function(t) t = nil look() end} local x = setmetatable(new('a'), m).x", "")

    def test_loops(self):
        self.looks("for k in function(s, c) if c ~= 1 then return 1 end end, new('s'), new('c') do look() end look()", "s", "")
        self.looks("for k in fun('f', function(s, c) if not c then return 1 end end) do look() end", "f")
        self.looks("for k, v in function(s, c) if not c then return new('k'), new('v') end end do k = nil look() end", "kv")
        self.looks("for k in function(s, c) look() end, new('s'), new('c') do end", "sc")
        self.looks("for k in function() end, 1, 2, closer('x') do end", "x")
        self.looks("local n = 0 while n < 1 do n = 1 local a = new('a') look() end look()", "a", "")
        self.looks("repeat local a = new('a') until look() == nil", "a")
        self.looks("for i = 1, 1 do local a = new('a') if true then break end end look()", "")

    def test_closers(self):
        self.looks("do local a = new('a') local c <close> = closer('c') end", "c")
        self.looks("local a = new('a') do local c <close> = closer('c') end", "ac")
        self.looks("local a = new('a') do local b = new('b') local c <close> = closer('c') local d <close> = closer('d') end", "acd", "ac")
        self.looks("local a = new('a') local c <close> = closer('c') return new('r'), 5", "cr")
        self.looks("local a = new('a') local c <close> = closer('c')", "c")
        self.looks("while true do local b = new('b') local c <close> = closer('c') break end", "c")
        self.looks("local a = new('a') do local b = new('b') local c <close> = closer('c') goto out end ::out::", "ac")
        self.looks("for k in next, {1}, nil, closer('e') do local c <close> = closer('c') break end", "ec", "e")
        self.looks("repeat local c <close> = closer('c') until new('q')", "c")
        self.looks("do local c <close> = closer('c') c2 = nil end", "c")

    def test_values_that_wait_to_be_closed(self):
        self.looks("local c <close> = closer('c') look()", "c", "c")
        self.looks("do local c <close> = closer('c') look() end", "c", "c")
        self.looks("for k in next, {1}, nil, closer('e') do look() end", "e", "e")

    def test_errors(self):
        self.looks("pcall(function() local a = new('a') local c <close> = closer('c') error(new('e')) end)", "ce")
        self.looks("pcall(function() local c <close> = closer('c') local d <close> = closer('d') error('x') end)", "cd", "c")
        self.looks("local ok, e = pcall(error, new('e')) look()", "e")

    def test_functions_of_the_library(self):
        self.looks("pcall(look, new('a'))", "")
        self.looks("pcall(function(a) a = nil look() end, new('a'))", "")
        self.looks("tostring(setmetatable(new('a'), {__tostring = function(t) t = nil look() return '' end}))", "")
        self.looks("local m = {__index = function(t, i) t = nil look() return new(i .. '') end} unpack(setmetatable(new('a'), m), 1, 3)", "a", "a1", "12")
        self.looks("local m = {__len = function(t) t = nil look() return 0 end} unpack(setmetatable(new('a'), m))", "a")
        self.looks("local m = {__pairs = function(t) t = nil look() end} pairs(setmetatable(new('a'), m))", "")
        self.looks("local m = {__index = function(t) t = nil look() end} ipairs(1)(setmetatable(new('a'), m), 0)", "")

    def test_print_holds_what_it_will_still_tell(self):
        self.check(LOOK + """
            local m = {__tostring = function(t) t = nil look() return 't' end}
            print(setmetatable(new('a'), m), setmetatable(new('b'), m), new('c') == 1)
        """, ["b", "", "t|t|false"])

    def test_tail_calls(self):
        self.looks("local a = new('a') local function f() look() end return f(new('b'))", "")
        self.looks("local a = new('a') return look(new('b'))", "")
        # The frame stays while a function of the library works.
        self.looks("local a = new('a') return pcall(look, new('b'))", "a")

    def test_coroutines(self):
        self.looks("local co = coroutine.create(function(a) local b = new('b') coroutine.yield(new('y')) end) coroutine.resume(co, new('a')) look()", "ab")
        self.looks("local co = coroutine.create(fun('f', id)) look()", "f")
        self.looks("local co = coroutine.create(function() coroutine.yield() end) note('t', co) coroutine.resume(co) co = nil look()", "")
        self.looks("local f = note('w', coroutine.wrap(function() local b = new('b') coroutine.yield() end)) f() look()", "wb")
        self.looks("local a = new('a') coroutine.wrap(function() look() end)()", "a")
        self.looks("coroutine.wrap(function() local a = new('a') coroutine.wrap(function() look() end)() end)()", "a")
        self.looks("local co = coroutine.create(error) coroutine.resume(co, new('e')) look() coroutine.close(co) look()", "e", "")
        self.looks("local co = coroutine.create(function() local c <close> = closer('c') error(new('e')) end) coroutine.resume(co) look() coroutine.close(co) look()",
                   "ce", "ce", "")
        self.looks("local co = coroutine.create(function() local a = new('a') end) coroutine.resume(co) look()", "")
        self.looks("local co = coroutine.create(function() local c <close> = closer('c') local d <close> = closer('d') coroutine.yield() end)"
                   " coroutine.resume(co) coroutine.close(co)", "cd", "c")
        self.looks("local co = note('t', coroutine.create(look)) coroutine.resume(co) co = nil look()", "t", "")
        self.looks("local co = coroutine.create(fun('f', id)) coroutine.close(co) look()", "")
        self.looks("local co = coroutine.create(function() local a = new('a') error('x') end) coroutine.resume(co) look()", "")
        self.looks("local co = coroutine.create(function() local a = new('a') coroutine.yield() end) coroutine.resume(co) coroutine.close(co) look()", "")
        # One that waits does not lead to the one that resumed it.
        self.looks("local inner = coroutine.create(coroutine.yield) coroutine.resume(note('o', coroutine.create(function() coroutine.resume(inner) look() end))) look()",
                   "o", "")
        # The running one is reached, though nothing names it.
        self.looks("coroutine.resume(note('t', coroutine.create(function() look() end)))", "t")

    def test_yields_hand_over(self):
        self.looks("local co = coroutine.create(function() coroutine.yield(new('y')) look() end) coroutine.resume(co) coroutine.resume(co, new('x'))", "")

    def test_globals(self):
        self.check(LOOK + "g = new('g') look() g = nil look() _ENV = {collect = collect, print = print} look()", ["g", "", ""])
        self.check(LOOK + "local collect, print = collect, print g = new('g') local function f() collect() print(w.g ~= nil) end _ENV = {} f()", ["true"])

    def test_the_coroutine_table_is_no_root(self):
        self.check("local w = setmetatable({coroutine}, {__mode = 'v'}) collect() print(#w) coroutine = nil collect() print(#w)", ["1", "0"])


class CollectTest(RunCase):
    def test_weak_tables(self):
        self.check("""
            local k = setmetatable({}, {__mode = 'k'})
            local v = setmetatable({}, {__mode = 'v'})
            local kv = setmetatable({}, {__mode = 'kv'})
            local a, b = {}, {}
            k[a] = 1 k[{}] = 2 v[1] = a v[2] = {} v.x = b v.y = {} kv[a] = {} kv[{}] = b kv[b] = a
            collect()
            local n = 0
            for _ in pairs(k) do n = n + 1 end
            print(n, k[a], v[1] == a, v[2], v.x == b, v.y, kv[a], kv[b] == a)
            for key in pairs(kv) do print(key == b) end
        """, ["1|1|true|nil|true|nil|nil|true", "true"])

    def test_what_it_returns_and_counts(self):
        self.check_values("return collect()")
        self.check_values("return select('#', collect(1, 2, 3))", 0)
        self.check_work("collect() collect()", 3)

    def test_a_value_that_only_its_key_reaches(self):
        self.check("local k = setmetatable({}, {__mode = 'k'}) do local a = {} k[a] = {a} end collect() print(next(k))"
                   " local b = {} k[b] = {b} collect() print(next(k) == b)", ["nil", "true"])

    def test_going_through_while_keys_are_lost(self):
        self.check_values("""
            local k = setmetatable({}, {__mode = 'k'})
            for i = 1, 8 do k[{}] = i end
            local n = 0
            -- The hidden control value holds the key of this round.
            for key in pairs(k) do key = nil n = n + 1 collect() end
            collect()
            return n, next(k)
        """, 1, None)

    def test_180_frames(self):
        text = "local function f(n) if n > 0 then return (f(n - 1)) end @a return (collect()) end print(pcall(f, DEPTH))"
        self.check(text.replace("DEPTH", "175"), ["true|nil"])
        self.check(text.replace("DEPTH", "176"), ["false|@a: stack overflow"])
        self.check("local function f(n) if n > 0 then return (f(n - 1)) end return (collect()) end print(coroutine.resume(coroutine.create(f), 178))"
                   " print(coroutine.resume(coroutine.create(f), 179))", ["true|nil", "false|4: stack overflow"])

    def test_strings_and_natives_stay(self):
        self.check_values("local t = setmetatable({print, 'x', 5, true}, {__mode = 'kv'}) t[kind] = kind collect() return t[1], t[2], t[3], t[4], t[kind]",
                          ("native", "print"), "x", 5, True, ("native", "kind"))

    def test_what_is_reached_from_the_globals_stays(self):
        self.check_values("g = {x = {y = {z = 1}}} for i = 1, 3 do collect() end return g.x.y.z", 1)


GC = "local function mark(name) return setmetatable({name = name}, {__gc = function(t) print('gc', name, t.name) end}) end\n"


class FinalizersTest(RunCase):
    def test_the_last_marked_first(self):
        self.check(GC + "mark('a') mark('b') local c = mark('c') mark('d') print(1) collect() print(2) c = nil collect() print(3) collect()",
                   ["1", "gc|d|d", "gc|b|b", "gc|a|a", "2", "gc|c|c", "3"])

    def test_marks(self):
        # The field has to be there when the metatable is set.
        self.check("local m = {} setmetatable({}, m) m.__gc = function() print('gc') end collect() setmetatable({}, m) collect() print('end')", ["gc", "end"])
        # Any value that is not nil marks; what is there later is called.
        self.check("local m = {__gc = false} setmetatable({}, m) m.__gc = function() print('gc') end collect()", ["gc"])
        self.check("local m = {__gc = function() print('no') end} setmetatable({}, m) m.__gc = nil collect() print('end')", ["end"])
        self.check("local m = {__gc = function() print('no') end} local t = setmetatable({}, m) setmetatable(t, nil) t = nil collect() print('end')", ["end"])
        self.check("local m = setmetatable({}, {__index = {__gc = print}}) setmetatable({}, m) collect() print('end')", ["end"])

    def test_a_table_is_marked_once(self):
        self.check(GC + """
            local t = mark('a')
            mark('b')
            setmetatable(t, {__gc = function() print('gc new') end})
            t = nil
            collect()
        """, ["gc|b|b", "gc new"])

    def test_they_are_called_with_the_table_alone(self):
        self.check("local m = {} m.__gc = function(...) print(select('#', ...), kind((...)), getmetatable((...)) == m) end setmetatable({}, m) collect()",
                   ["1|table|true"])
        self.check("local c = setmetatable({}, {__call = function(...) print(select('#', ...)) end}) setmetatable({}, {__gc = c}) collect()", ["2"])

    def test_errors_are_lost(self):
        self.check(GC + """
            mark('a')
            setmetatable({}, {__gc = function() print('throws') error('x') end})
            setmetatable({}, {__gc = 5})
            setmetatable({}, {__gc = function()
              local c <close> = setmetatable({}, {__close = function(t, e) print('close', e) error('y') end})
              error('z', 0)
            end})
            print(pcall(collect))
        """, ["close|z", "throws", "gc|a|a", "true"])

    def test_they_cannot_yield(self):
        self.check("setmetatable({}, {__gc = function() print(pcall(coroutine.yield)) end}) collect() setmetatable({}, {__gc = function() print(pcall(coroutine.yield)) end})"
                   " coroutine.wrap(collect)()",
                   ["false|attempt to yield from outside a coroutine", "false|attempt to yield across a native call"])
        self.check("setmetatable({}, {__gc = function() @a coroutine.yield() print('no') end}) print(coroutine.resume(coroutine.create(collect)))", ["true"])

    def test_a_coroutine_may_yield_within_one(self):
        self.check("local co = coroutine.create(function() coroutine.yield('y') return 'r' end)"
                   " setmetatable({}, {__gc = function() print(coroutine.resume(co)) print(coroutine.resume(co)) end}) collect()", ["true|y", "true|r"])

    def test_collect_does_nothing_meanwhile(self):
        self.check(GC + """
            local w = setmetatable({}, {__mode = 'v'})
            setmetatable({}, {__gc = function()
              mark('inner')
              w[1] = {}
              collect()
              coroutine.wrap(function() collect() end)()
              print('still', w[1] ~= nil)
            end})
            collect()
            print('behind', w[1] ~= nil)
            collect()
            print('end', w[1])
        """, ["still|true", "behind|true", "gc|inner|inner", "end|nil"])

    def test_the_error_of_180_frames_within_one(self):
        # The bottom, the main function, collect, the finalizer and f: f(174) stands in the 180th frame with 175 of f.
        text = "local function f(n) if n > 0 then return (f(n - 1)) end return (collect()) end setmetatable({}, {__gc = function() print(pcall(f, DEPTH)) end}) collect()"
        self.check(text.replace("DEPTH", "173"), ["true|nil"])
        self.check(text.replace("DEPTH", "174"), ["false|4: stack overflow"])

    def test_tables_that_live_on(self):
        self.check("""
            local kept
            local m = {}
            m.__gc = function(t) print('gc', t.n) kept = t end
            setmetatable({n = 1}, m)
            collect()
            print(kept.n)
            collect()
            setmetatable(kept, m)
            kept = nil
            collect()
            print(kept.n)
            kept = nil
            collect()
            print('end')
        """, ["gc|1", "1", "gc|1", "1", "end"])

    def test_marking_again_within_a_finalizer(self):
        self.check("""
            local n = 0
            local m = {}
            m.__gc = function(t) n = n + 1 print('gc', n) if n < 3 then setmetatable(t, m) end end
            setmetatable({}, m)
            collect() print(1) collect() print(2) collect() print(3) collect()
        """, ["gc|1", "1", "gc|2", "2", "gc|3", "3"])

    def test_weak_tables_and_finalizers(self):
        self.check("""
            local v = setmetatable({}, {__mode = 'v'})
            local k = setmetatable({}, {__mode = 'k'})
            local m = {}
            m.__gc = function(t) print('gc', v[1], k[t], v[2] == t.child) end
            do
              local t = setmetatable({child = {}}, m)
              v[1] = t k[t] = 'key' v[2] = t.child
            end
            collect()
            print(next(k) ~= nil, v[2])
            collect()
            print(next(k))
        """, ["gc|nil|key|false", "true|nil", "nil"])

    def test_in_which_line_and_frame(self):
        self.check("setmetatable({}, {__gc = function() local c <close> = setmetatable({}, {__close = function(t, e) print(e) end}) error('x', 2) end}) collect()", ["x"])

    def test_it_is_done_ahead_of_the_end_of_the_call(self):
        self.check(GC + "mark('a') print(1, collect())", ["gc|a|a", "1"])

    def test_under_pcall_and_in_coroutines(self):
        self.check(GC + "mark('a') print(pcall(collect)) mark('b') print(coroutine.resume(coroutine.create(collect)))", ["gc|a|a", "true", "gc|b|b", "true"])


class EndTest(RunCase):
    def test_all_marked_tables_are_finished(self):
        self.check(GC + "a = mark('a') local b = mark('b') mark('c') print('end') return 5", ["end", "gc|c|c", "gc|b|b", "gc|a|a"], [5])
        self.check(GC + "a = mark('a') @x error('why')", ["gc|a|a"], ("@x: why",))

    def test_behind_the_closers(self):
        self.check(GC + "mark('a') local c <close> = setmetatable({}, {__close = function() print('close') mark('b') end})", ["close", "gc|b|b", "gc|a|a"])
        self.check(GC + "local c <close> = setmetatable({}, {__close = function() print('close') mark('b') end}) error('x', 0)", ["close", "gc|b|b"], ("x",))

    def test_the_end_stays_as_it_is(self):
        self.check("setmetatable({}, {__gc = function() print('gc') error('other') end}) return 1, 2", ["gc"], [1, 2])
        self.check("setmetatable({}, {__gc = function() print('gc') error('other') end}) error('x', 0)", ["gc"], ("x",))
        self.check("local r = {} setmetatable({}, {__gc = function() r.x = 5 end}) return r", [], [("table", 2)])

    def test_nothing_is_marked_any_more(self):
        self.check(GC + "setmetatable({}, {__gc = function() print('gc') mark('late') collect() end})", ["gc"])

    def test_work_and_yields(self):
        self.check_work("setmetatable({}, {__gc = function() for i = 1, 5 do end end})", 8)
        self.check("setmetatable({}, {__gc = function() print(coroutine.isyieldable(), pcall(coroutine.yield)) end})",
                   ["false|false|attempt to yield from outside a coroutine"])

    def test_frames(self):
        # The bottom finishes them: behind it there is room for 179 frames.
        text = "local function f(n) if n > 0 then return (f(n - 1)) end return 'ok' end setmetatable({}, {__gc = function() print((pcall(f, DEPTH))) end})"
        self.check(text.replace("DEPTH", "176"), ["true"])
        self.check(text.replace("DEPTH", "177"), ["false"])

    def test_errors_there_are_closed(self):
        self.check("setmetatable({}, {__gc = function() local c <close> = setmetatable({}, {__close = function(t, e) print('close', e) end}) error('x', 0) end}) return 1",
                   ["close|x"], [1])

    def test_limits_within_finalizers(self):
        program = program_of("setmetatable({}, {__gc = function() while true do end end}) return 1")
        for engine in ("walker", "machine"):
            with self.assertRaises(LimitExceeded) as caught:
                outcome(program, engine=engine, work=50)
            self.assertEqual(caught.exception.limit, 50)

    def test_as_often_as_marked(self):
        self.check(GC + "mark('a') collect() collect() local b = mark('b') collect() setmetatable(b, getmetatable(b)) print('end')", ["gc|a|a", "end", "gc|b|b"])


if __name__ == "__main__":
    unittest.main()
