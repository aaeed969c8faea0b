"""[32] to [37]: what programs do, part by part; parts tell that they are done by a function p, which returns its argument."""

import unittest

from run_helper import RunCase

# A table of which every event tells its name and its operands, and then gives the number 1.
TELLING = """
local log = ''
local function p(x, ...) log = log .. tostring(x) return x, ... end
local function told() local found = log log = '' return found end
"""
EVENTS = """
local names = {}
local meta = {}
local function new(name) local t = setmetatable({}, meta) names[t] = name return t end
local function text(v) return names[v] or tostring(v) end
for _, word in ipairs({'index', 'newindex', 'add', 'sub', 'mul', 'div', 'idiv', 'mod', 'band', 'bor', 'bxor', 'shl', 'shr', 'unm', 'bnot', 'concat',
  'len', 'eq', 'lt', 'le', 'call'}) do
  meta['__' .. word] = function(...)
    local row = {}
    for i = 1, select('#', ...) do row[i] = text((select(i, ...))) end
    print(word, unpack(row))
    return 1, 2
  end
end
local a, b = new('a'), new('b')
"""


class FramesTest(RunCase):
    def test_parameters_and_dots(self):
        self.check("""
            local function f(a, b, ...) print(a, b, ...) end
            f() f(1) f(1, 2) f(1, 2, 3) f(1, 2, nil, 4, nil)
            local function g(a) print(a) end
            g(1, 2, 3)
            local function h(...) local a, b = ... print(a, b, select('#', ...)) end
            h() h(nil) h(1, 2, 3)
        """, ["nil|nil", "1|nil", "1|2", "1|2|3", "1|2|nil|4|nil", "1", "nil|nil|0", "nil|nil|1", "1|2|3"])

    def test_parameters_of_equal_names(self):
        self.check_values("local function f(a, a) return a end return f(1, 2)", 2)

    def test_results(self):
        self.check_values("local function f() end return f()")
        self.check_values("local function f() end return (f())", None)
        self.check_values("local function f() return end return 1, f()", 1)
        self.check_values("local function f() return nil end return f()", None)
        self.check_values("local function f() return 1, nil, 3 end return f()", 1, None, 3)
        self.check_values("local function f(a) if a then return 1 end end return f(true), f(false), f()", 1, None)

    def test_the_main_function(self):
        self.check_values("return select('#', ...), ...", 0)
        self.check_values("")
        self.check_values("local a")

    def test_values_of_all_kinds_are_told(self):
        found, _ = self.run_text("""
            local t = {}
            return nil, true, 1, 1.5, 's', t, function() end, print, coroutine.create(print), coroutine.wrap(print), coroutine.yield, (coroutine.running()),
              _ENV, coroutine, ipairs(t)
        """)
        self.assertEqual(found.end[1][4:], ["s", ("table", 2), ("function", 1), ("native", "print"), ("thread", 1), ("function", 2),
                                            ("native", "coroutine.yield"), ("thread", 0), ("table", 0), ("table", 1), ("native", "ipairs step"),
                                            ("table", 2), 0])


class LinesTest(RunCase):
    def error_at(self, line, text):
        found, lines = self.run_text(text)
        self.assertEqual(found.end, ("error", f"{lines.get(line, line)}: attempt to call a nil value"))

    def test_statements(self):
        for row in ("local x = f()", "x = f()", "f()", "if f() then end", "while f() do end", "for i = f(), 1 do end",
                    "for i = 1, f() do end", "for i = 1, 2, f() do end", "for k in f() do end", "for k in f do end", "t[f()] = 1", "t[1] = f()",
                    "local x <close> = f()", "if nil then elseif f() then end", "x = {f()}", "x = {[1] = f()}", "x = f() and 1", "x = -f()"):
            self.error_at("a", f"local t = {{}} @a {row} local z")
        for row in ("f()", "f(), 1", "1, f()", "(f())", "{f()}", "t.x.y", "t:f()"):
            found, lines = self.run_text(f"local t = {{}} do local y @a return {row} end")
            self.assertEqual(found.end[1].split(":")[0], str(lines["a"]))

    def test_a_repeat(self):
        self.error_at("a", "@a repeat local x = 1 local y until f()")
        self.error_at("b", "repeat local x @b f() until true")

    def test_behind_inner_statements(self):
        self.error_at("a", "local n = 0 @a while n == 0 or f() do n = n + 1 local x do local y end end")
        self.error_at("a", "local n = 0 @a if (function() n = 1 return false end)() then elseif f() then end")
        self.check_error("local m = {__call = function(t) setmetatable(t, nil) return 1 end}"
                         " @a for k in setmetatable({}, m) do local x do local y end end", "@a: attempt to call a table value")
        self.error_at("c", "@a do local x @b do local y end @c f() end")

    def test_a_statement_behind_a_block(self):
        self.error_at("b", "@a do local x end @b f()")
        self.error_at("a", "@a local x = (function() local y local z end)() or f()")

    def test_functions(self):
        self.check("""
            @a local function f() error('x') end
            print(pcall(f))
            @b local g = function()
              @c local h = function() @d error('y') end
              h()
            end
            print(pcall(g))
        """.replace("error('x')", "@e error('x')"), ["false|@e: x", "false|@d: y"])

    def test_the_end_of_a_functions_block(self):
        closer = "setmetatable({}, {__close = 5})"
        self.check_error(f"local c = {closer} @a local f = function() @b local x <close> = c local y end @z f()", "@a: attempt to call a number value")
        self.check_error(f"local c = {closer} @a local f = function() @b local x <close> = c @r return 1 end @z f()", "@r: attempt to call a number value")
        self.check_error(f"local c = {closer} local x <close> = c local y", "0: attempt to call a number value")
        self.check_error(f"local c = {closer} @a do local x <close> = c local y end", "@a: attempt to call a number value")


class ExpressionsTest(RunCase):
    def test_lists(self):
        self.check("""
            local function two() return 1, 2 end
            local function none() end
            local a, b, c = two() print(a, b, c)
            a, b, c = two(), 5 print(a, b, c)
            a, b, c = (two()) print(a, b, c)
            a, b = none(), none() print(a, b)
            a, b = 1, 2, none() print(a, b)
            a = two() print(a)
            a, b, c = 7, two() print(a, b, c)
            a, b, c = 7, 8, 9, two() print(a, b, c)
            print(two(), two())
            print(two(), none())
            print(none(), two())
            print((two()))
            print(#{two(), two()}, #{two(), (two())}, #{none(), 5})
            local function dots(...) return ..., ... end
            print(dots(1, 2))
            print(dots())
            print((dots(3, 4)))
        """, ["1|2|nil", "1|5|nil", "1|nil|nil", "nil|nil", "1|2", "1", "7|1|2", "7|8|9", "1|1|2", "1", "nil|1|2", "1", "3|2|2", "1|1|2", "nil", "3"])

    def test_all_values_of_a_list_are_done(self):
        self.check_values(TELLING + "local a = p(1), p(2), p(3) return told()", "123")
        self.check_values(TELLING + "local a a, b = p(1), p(2), p(3) return told()", "123")

    def test_from_left_to_right(self):
        rows = [
            ("local a = p(1) + p(2) * p(3)", "123"), ("local a = (p(1) + p(2)) * p(3)", "123"), ("local a = p(1) .. p(2) .. p(3)", "123"),
            ("local a = p({1})[p(1)]", None), ("local a = p(1) < p(2), p(3)", "123"), ("local a = {p(1), p(2), [p(3)] = p(4), p(5)}", "12345"),
            ("p(function(...) end)(p(1), p(2))", None), ("local t = {} t[p(1)], t[p(2)] = p(3), p(4)", "1234"),
        ]
        for row, found in rows:
            if found is not None:
                self.check_values(TELLING + row + " return told()", found)

    def test_a_names_value_is_taken_at_its_turn(self):
        self.check_values("local a = 1 local function f() a = 2 return 10 end return a + f(), f() + a, a, f(), a", 11, 12, 2, 10, 2)
        self.check_values("local a = 1 local function f() a = 2 return 10 end local t = {a, f(), a} return unpack(t)", 1, 10, 2)
        self.check_values("x = 1 local function f() x = 2 return 10 end return x + f()", 11)
        self.check_values("local t = {1} local function f() t = {2} return 1 end return t[f()]", 1)
        self.check_values("local g = function() return 1 end local function f() g = nil return 5 end return g(f())", 1)

    def test_calls(self):
        self.check(EVENTS + """
            local function f() print('f') return function(...) print('g', ...) return ... end end
            local function p(x) print(x) return x end
            print(f()(p(1), p(2)))
            print(a(p(1), b == a))
        """, ["f", "1", "2", "g|1|2", "1|2", "1", "eq|b|a", "call|a|1|true", "1|2"])

    def test_methods(self):
        self.check("""
            local log = {}
            local t = setmetatable({}, {__index = function(t, k) print('index', k) return function(...) print(select('#', ...), (...) == t, select(2, ...)) return 5, 6 end end})
            local function p(x) print(x) return x end
            local function obj() print('obj') return t end
            print(obj():name(p(1), p(2)))
            print((obj():name()))
            obj():other(obj() == t)
        """, ["obj", "index|name", "1", "2", "3|true|1|2", "5|6", "obj", "index|name", "1|true", "5", "obj", "index|other", "obj", "2|true|true"])

    def test_a_set(self):
        self.check(EVENTS + """
            local function p(x, y) print('part', x) return y end
            p('1', a)[p('2', 'k')], p('3', b)[p('4', 'm')] = p('5', 10), p('6', 20)
        """, ["part|1", "part|2", "part|3", "part|4", "part|5", "part|6", "newindex|b|m|20", "newindex|a|k|10"])

    def test_stores_from_the_last_one(self):
        self.check_values("local a a, a, a = 1, 2, 3 return a", 1)
        self.check_values("x, x = 1, 2 return x", 1)
        self.check_values("local t = {} t[1], t[1] = 'a', 'b' return t[1]", "a")
        self.check_values("local i, t = 1, {} i, t[i] = 2, 'x' return i, t[1], t[2]", 2, "x", None)
        self.check_values("local t = {1} local s = t t, t[1] = nil, 5 return t, s[1]", None, 5)
        self.check_values("local a, b = 1, 2 a, b = b, a return a, b", 2, 1)

    def test_too_many_and_too_few_values(self):
        self.check_values("local a, b, c = 1, 2, 3 a, b, c = 5 return a, b, c", 5, None, None)
        self.check_values("local a, b = 1 a, b = 5, 6, 7 return a, b", 5, 6)

    def test_and_or_not(self):
        self.check(TELLING + """
            print(p(nil) and p(1), p(false) and p(1), p(0) and p(1), told())
            print(p(nil) or p(1), p(false) or p(nil), p(0) or p(1), told())
            print(not nil, not false, not 0, not '', not {})
            print(nil and 1 or 2, 1 and 2 or 3, 1 and nil or 3)
            local function two() return 1, 2 end
            print(true and two())
            print(nil or two())
            print((two() or 5))
        """, ["nil|false|1|nilfalse01", "1|nil|0|nil1falsenil0", "true|true|false|false|false", "2|2|3", "1", "1", "1"])

    def test_truth_of_numbers_and_strings(self):
        self.check_values("local n = 0 for _, v in ipairs({0, '', 0.0, {}, print}) do if v then n = n + 1 end end return n", 5)

    def test_operators_with_events(self):
        self.check(EVENTS + """
            print(a + 1, 2 - b, a * b, a / b, a // 1, 1 % b, a & 1, 1 | b, a ~ b, a << 1, 1 >> b)
            print(-a, ~b, #a, a .. 'x', 'x' .. b, 1 .. a)
            print(a == b, a ~= b, a < b, a <= 1, a > b, 1 >= a, a == 1, a ~= 'x', a == a)
            print(a.x, a[1], a(5))
            a.x = 5
        """, ["add|a|1", "sub|2|b", "mul|a|b", "div|a|b", "idiv|a|1", "mod|1|b", "band|a|1", "bor|1|b", "bxor|a|b", "shl|a|1", "shr|1|b",
              "1|1|1|1|1|1|1|1|1|1|1", "unm|a|a", "bnot|b|b", "len|a|a", "concat|a|x", "concat|x|b", "concat|1|a", "1|1|1|1|1|1",
              "eq|a|b", "eq|a|b", "lt|a|b", "le|a|1", "lt|b|a", "le|a|1", "true|false|true|true|true|true|false|true|true",
              "index|a|x", "index|a|1", "call|a|5", "1|1|1|2", "newindex|a|x|5"])

    def test_answers_are_booleans(self):
        for result, answer in [("nil", False), ("false", False), ("0", True), ("'x'", True), ("", False)]:
            text = f"local m = {{}} local function f() return {result} end m.__eq, m.__lt, m.__le = f, f, f local a, b = setmetatable({{}}, m), setmetatable({{}}, m) "
            self.check_values(text + "return a == b, a ~= b, a < b, a <= b, a > b, a >= b", answer, not answer, answer, answer, answer, answer)

    def test_only_the_first_result_counts(self):
        self.check_values("local t = setmetatable({}, {__add = function() return 1, 2 end, __len = function() end}) return t + 1, #t", 1, None)

    def test_numbers_and_strings(self):
        self.check("print(7 // 2, -7 // 2, 7 % -3, 7 / 2) print(1 .. 2, 1.5 .. '', 'a' < 'b', 1 < 1.5, 3 & 5, 3 | 5, 3 ~ 5, ~0, 1 << 62, 1 << 64)",
                   ["3|-4|-2|3.5", "12|1.5|true|true|1|7|6|-1|4611686018427387904|0"])

    def test_parens(self):
        self.check_values("local function f(...) return (...) end return f(1, 2), f()", 1, None)
        self.check_values("local function f() return 1, 2 end return ((f()))", 1)
        self.check_values("local function f() end return (f()), 5", None, 5)


class TablesTest(RunCase):
    def test_room(self):
        # The order in which keys come tells how many nodes were made.
        self.check("""
            local t = {1, 2, nil, [5] = 'x', k = 'y'}
            print(#t, t[1], t[2], t[3], t[5], t.k)
            local s = {nil, nil, 3}
            print(#s)
            -- The table grows, and gets no place at all.
            s[#s + 1] = 4
            print(#s)
        """, ["2|1|2|nil|x|y", "3", "0"])

    def test_pairs_are_stored_at_once_and_items_wait(self):
        self.check_values("local t = {[1] = 'p', 'i'} return t[1]", "i")
        self.check_values("local t = {'i', [1] = 'p'} return t[1]", "i")
        self.check_values("local t = {[2] = 'p', 'a', 'b', 'c'} return t[1], t[2], t[3]", "a", "b", "c")

    def batch_of(self, many, last):
        """A table with so many items, then a last one that looks at the table."""
        items = ", ".join(str(at) for at in range(1, many + 1))
        return f"local seen local t = {{}} local function look() return 'x' end local s = {{{items}{last}}} return #s, s[{many}]"

    def test_batches(self):
        for many in (1, 49, 50, 51, 99, 100, 101, 150, 250):
            self.check_values(self.batch_of(many, ""), many, many)
            self.check_values(self.batch_of(many, ", look()"), many + 1, many)
            self.check_values(self.batch_of(many, ", k = look()"), many, many)

    def test_the_order_of_storing(self):
        # A pair at 1 comes ahead of a batch of fifty, or behind it.
        items = ", ".join(["'i'"] * 50)
        self.check_values(f"local t = {{{items}, [1] = 'p'}} return t[1], t[50]", "p", "i")
        items = ", ".join(["'i'"] * 49)
        self.check_values(f"local t = {{{items}, [1] = 'p', 'j'}} return t[1], t[50]", "i", "j")
        self.check_values(f"local t = {{{items}, [1] = 'p'}} return t[1]", "i")

    def test_open_items(self):
        self.check_values("local function f() return 1, 2, 3 end return #{f()}, #{f(), 1}, #{1, f()}, #{f(), f()}, #{(f())}", 3, 2, 4, 4, 1)
        self.check_values("local function f(...) return #{...}, #{..., 1}, #{...,k = 1} end return f(1, 2, 3)", 3, 2, 1)
        self.check_values("local function f(...) return {...} end local t = f(nil, nil, 3) return t[3], #t", 3, 3)
        self.check_values("local function f() end return #{f()}, #{1, f()}, #{f(), 1}", 0, 1, 2)
        self.check_values("local t = {1, [2] = 5, (function() return 2, 3 end)()} return t[2], t[3]", 2, 3)

    def test_many_open_values(self):
        self.check_values("local t = {} for i = 1, 240 do t[i] = i end local s = {0, unpack(t)} return #s, s[241]", 241, 240)

    def test_keys_that_cannot_be(self):
        self.check_error("@a local t = {[nil] = 1}", "@a: table index is nil")
        self.check_error("local z = 0.0 @a local t = {1, [z / z] = 1}", "@a: table index is NaN")
        self.check_error("@a local t = {[nil] = nil}", "@a: table index is nil")
        self.check_values("local t = {1, nil, k = nil} return #t, next(t, 1)", 1, None)

    def test_storing_is_raw(self):
        self.check_values("local t = {1, k = 2} return t[1], t.k, rawget(t, 'k')", 1, 2, 2)

    def test_nodes_for_the_keys(self):
        # All three keys share a main position; made with room for them, or one by one, they lie differently.
        show = "local s = '' for k in pairs(t) do s = s .. k end return s"
        self.check_values("local t = {a = 1, e = 2, i = 3} " + show, "aie")
        self.check_values("local t = {} t.a = 1 t.e = 2 t.i = 3 " + show, "eia")
        self.check_values("local t = {a = 1, e = 2, i = 3, m = nil, q = nil} " + show, "aei")

    def test_places_for_the_items(self):
        # With places for them, a border is looked for among the places.
        self.check_values("local t = {1, 2, 3, nil} return #t, #{nil, 2}, #{nil, nil, 3, nil}, #{1, nil, 3, nil}", 3, 2, 0, 1)
        self.check_values("local t = {} t[2] = 2 return #t", 0)
        self.check_values("local function f() return nil, 2 end return #{f()}, #{(f()), 2}", 2, 2)

    def test_the_order_of_keys(self):
        self.check("local t = {x = 1, y = 2, z = 3, 10, 20} for k, v in pairs(t) do print(k, v) end",
                   ["1|10", "2|20", "x|1", "y|2", "z|3"])


class FunctionsTest(RunCase):
    def test_each_time_a_new_one(self):
        self.check_values("local function f() return function() end end return f() == f(), f, f()", False, ("function", 1), ("function", 4))

    def test_shared_variables(self):
        self.check("""
            local function pair() local n = 0 return function() n = n + 1 return n end, function() return n end end
            local up, get = pair()
            local up2, get2 = pair()
            up() up() up2()
            print(get(), get2())
        """, ["2|1"])

    def test_localfun_sees_itself(self):
        self.check_values("local function f(n) if n == 0 then return 'end' end return f(n - 1) end return f(5)", "end")
        self.check_error("@a local f = function(n) @b return f(n) end f(1)", "@b: attempt to call a nil value")

    def test_local_begins_behind_its_values(self):
        self.check_values("local x = 1 local x = x + 1 local x = x + 1 return x", 3)
        self.check_values("local x = 1 do local x = x + 1 end return x", 1)
        self.check_values("local a, a = 1, 2 return a", 2)
        self.check_values("local a, b return a, b", None, None)

    def test_new_variables_in_each_round(self):
        self.check("""
            local fs = {}
            for i = 1, 3 do local j = i fs[i] = function() i = i + 10 j = j + 100 return i, j end end
            print(fs[1]()) print(fs[1]()) print(fs[2]()) print(fs[3]())
            local n = 0
            while n < 3 do n = n + 1 local k = n fs[n] = function() k = k + 1 return k end end
            print(fs[1](), fs[1](), fs[2](), fs[3]())
            n = 0
            repeat local k = n n = n + 1 fs[n] = function() k = k + 1 return k end until k == 2
            print(fs[1](), fs[1](), fs[2](), fs[3]())
            for k, v in ipairs({7, 8}) do fs[k] = function() v = v + 1 return k, v end end
            print(fs[1]()) print(fs[1]()) print(fs[2]())
        """, ["11|101", "21|201", "12|102", "13|103", "2|3|3|4", "1|2|2|3", "1|8", "1|9", "2|9"])

    def test_a_declaration_done_again(self):
        self.check("""
            local fs, n = {}, 0
            ::again::
            local x = n
            fs[n] = function() x = x + 1 return x end
            n = n + 1
            if n < 3 then goto again end
            print(fs[0](), fs[0](), fs[1](), fs[2]())
        """, ["1|2|2|3"])

    def test_the_variable_of_a_for_is_a_copy(self):
        self.check("for i = 1, 3 do print(i) i = 10 end", ["1", "2", "3"])

    def test_env(self):
        self.check_values("local _ENV = {x = 5} return x, _ENV.x", 5, 5)
        self.check_values("local function f(_ENV) return x end return f({x = 1}), f({x = 2})", 1, 2)
        self.check_values("_ENV = {y = 1} return y", 1)
        self.check_error("@a local _ENV = nil @b x = 1", "@b: attempt to index a nil value")
        self.check_error("local _ENV = 5 @b return x", "@b: attempt to index a number value")
        self.check_values("x = 1 local g = _ENV local _ENV = {} x = 2 return g.x, x", 1, 2)
        self.check(EVENTS + "do local _ENV = a local z = x y = z end", ["index|a|x", "newindex|a|y|1"])

    def test_fields_by_events(self):
        self.check("""
            local print = print
            setmetatable(_ENV, {__index = function(t, k) return k .. '!' end, __newindex = function(t, k, v) print('set', k, v) end})
            print(unknown)
            other = 5
            print(other)
        """, ["unknown!", "set|other|5", "other!"])


class LoopsTest(RunCase):
    def test_while(self):
        self.check("local n = 0 while n < 3 do n = n + 1 print(n) end while false do print('no') end while nil do end print('end')", ["1", "2", "3", "end"])

    def test_repeat(self):
        self.check("local n = 0 repeat n = n + 1 print(n) until n >= 2 repeat local x = true print('once') until x", ["1", "2", "once"])

    def test_the_question_of_repeat_sees_the_block(self):
        self.check_values("local x, n = 0, 0 repeat local x = n n = n + 1 until x == 3 return n", 4)

    def test_for(self):
        self.check("""
            local function row(a, b, c) local s = '' for i = a, b, c or 1 do s = s .. i .. ' ' end print(s) end
            row(1, 3) row(3, 1) row(3, 1, -1) row(1, 2, 0.5) row(1.0, 3) row(1, 0) row(1, 1) row(1, 10, 4) row(9223372036854775806, 9223372036854775807)
            for i = 3, 1 do print('no') end
        """, ["1 2 3 ", "", "3 2 1 ", "1.0 1.5 2.0 ", "1.0 2.0 3.0 ", "", "1 ", "1 5 9 ", "9223372036854775806 9223372036854775807 "])

    def test_wrong_for_values(self):
        self.check_error("@a for i = 1, 'x' do end", "@a: 'for' limit must be a number")
        self.check_error("@a for i = 'x', 1 do end", "@a: 'for' initial value must be a number")
        self.check_error("@a for i = 1, 2, {} do end", "@a: 'for' step must be a number")
        self.check_error("@a for i = 1, 2, 0 do end", "@a: 'for' step is zero")
        self.check_error("@a for i = nil, nil do end", "@a: 'for' limit must be a number")

    def test_forin(self):
        self.check("""
            local function step(state, control) print('step', state, control) if control < state then return control + 1, 'v', 'w' end end
            for k, v, w, x in step, 2, 0 do print(k, v, w, x) end
            for k in step, 1, 0 do print(k) end
            for k, v in function() return nil, 1 end do print('no') end
            for k, v in function() end do print('no') end
            local n = 0
            for k in function() n = n + 1 if n < 3 then return false end end do print(k) end
        """, ["step|2|0", "1|v|w|nil", "step|2|1", "2|v|w|nil", "step|2|2", "step|1|0", "1", "step|1|1", "false", "false"])

    def test_the_control_value_is_hidden(self):
        self.check("local function step(s, c) if c < 3 then return c + 1 end end for k in step, nil, 0 do print(k) k = 10 end", ["1", "2", "3"])

    def test_forin_calls_by_the_event(self):
        self.check("local t = setmetatable({}, {__call = function(self, s, c) if c < 2 then return c + 1 end end}) for k in t, 5, 0 do print(k) end", ["1", "2"])

    def test_forin_wants_four_values(self):
        self.check_error("@a for k in print, 1, 2, 3 do end", "@a: variable got a non-closable value")
        self.check("for k in function() end, 1, 2, nil, error do end for k in function() end, 1, 2, false do end")
        self.check_error("@a for k in nil do end", "@a: attempt to call a nil value")
        self.check_error("@a for k in 5, 1, 2 do end", "@a: attempt to call a number value")

    def test_break(self):
        self.check("""
            while true do print(1) break end
            repeat print(2) break until false
            for i = 1, 3 do if i == 2 then break end print('i', i) end
            for k in ipairs({1, 2, 3}) do if k == 2 then break end print('k', k) end
            for i = 1, 2 do while true do break end print('o', i) end
            while true do do do break end end end
        """, ["1", "2", "i|1", "k|1", "o|1", "o|2"])

    def test_goto(self):
        self.check("""
            for i = 1, 3 do
              if i == 2 then goto continue end
              print(i)
              ::continue::
            end
            do goto over print('no') ::over:: end
            local n = 0
            ::top::
            n = n + 1
            if n < 3 then goto top end
            print(n)
            while true do while true do goto out end end
            ::out::
            print('out')
        """, ["1", "3", "3", "out"])

    def test_goto_into_the_end_of_a_block(self):
        self.check("do goto done local x = 5 print(x) ::done:: end repeat if true then break end local y until false print('ok')", ["ok"])

    def test_goto_out_of_scopes_with_captured_variables(self):
        self.check("""
            local fs = {}
            do
              local n = 0
              ::again::
              local x = n
              fs[#fs + 1] = function() x = x + 1 return x end
              do
                local y = x * 10
                fs[#fs + 1] = function() y = y + 1 return y end
                n = n + 1
                if n < 3 then goto again end
              end
            end
            local s = ''
            for i = 1, #fs do s = s .. fs[i]() .. ' ' .. fs[i]() .. ' ' end
            print(s)
        """, ["1 2 1 2 2 3 11 12 3 4 21 22 "])

    def test_break_out_of_scopes_with_captured_variables(self):
        self.check("""
            local f
            for i = 1, 3 do
              local x = i * 10
              do local y = x + 1 f = function() y = y + 1 x = x + 1 i = i + 1 return x, y, i end if i == 2 then break end end
            end
            print(f()) print(f())
        """, ["21|22|3", "22|23|4"])


if __name__ == "__main__":
    unittest.main()
