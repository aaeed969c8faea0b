"""[50] to [55]: the functions of the library, with right and wrong arguments, and the lines of their errors."""

import unittest

from run_helper import RunCase
from upvalues.numbers import Float
from upvalues.objects import Native
from upvalues.tables import Table

GLOBALS = ("print kind next pairs ipairs select unpack rawget rawset rawequal rawlen getmetatable setmetatable tostring tonumber error assert pcall"
           " collect coroutine").split()
INNER = "create resume yield status wrap isyieldable running close".split()


class GlobalsTest(RunCase):
    def order(self, names):
        """The order in which the names lie in a table with room for all of them."""
        table = Table(0, 0, len(names))
        for name in names:
            table.put(name, Native(name, None))
        found = []
        one = table.next_after(None)
        while one is not None:
            found.append(one[0])
            one = table.next_after(one[0])
        return found

    def test_names_and_their_order(self):
        found, _ = self.run_text("local s = '' for k in pairs(_ENV) do s = s .. k .. ' ' end return s")
        self.assertEqual(found.end[1][0].split(), self.order(GLOBALS))
        found, _ = self.run_text("local s = '' for k in pairs(coroutine) do s = s .. k .. ' ' end return s")
        self.assertEqual(found.end[1][0].split(), self.order(INNER))

    def test_what_they_are(self):
        for name in GLOBALS[:-1]:
            self.check_values(f"return {name}, tostring({name}), kind({name})", ("native", name), f"function: {name}", "function")
        for name in INNER:
            self.check_values(f"return coroutine.{name}, tostring(coroutine.{name})", ("native", f"coroutine.{name}"), f"function: coroutine.{name}")
        self.check_values("return coroutine, _ENV, {}", ("table", 1), ("table", 0), ("table", 2))
        self.check_values("return (ipairs(1)), tostring((ipairs(1))), ipairs(1) == ipairs(2)", ("native", "ipairs step"), "function: ipairs step", True)

    def test_they_can_be_changed(self):
        self.check_error("print = nil @a print(1)", "@a: attempt to call a nil value")
        self.check("local p = print print = function(...) p('mine', ...) end print(1)", ["mine|1"])
        self.check("next = nil tostring = nil for k, v in pairs({5}) do print(k, v) end", ["1|5"])
        self.check_values("coroutine.wrap = nil coroutine.mine = 5 return coroutine.wrap, coroutine.mine, pairs == pairs, print == kind", None, 5, True, False)

    def test_their_keys_lie_by_their_names(self):
        # Main positions of the library's functions are those of their names.
        sums = {}
        for name in ("print", "coroutine.create", "ipairs step", "next"):
            table = Table(0, 0, 8)
            table.put(Native(name, None), 1)
            code = 0
            for sign in name:
                code = (31 * code + ord(sign)) % 2 ** 32
            sums[name] = code % 8
            self.assertEqual([row is not None for row in table.rows()].index(True), sums[name])


    def test_keys_of_all_kinds(self):
        # Tables, functions, those of wrap, and threads lie by their numbers.
        text = """
            local t0 = {}
            local f1 = function() end
            local co = coroutine.create(f1)
            local w = coroutine.wrap(f1)
            local f3 = function() end
            local main = coroutine.running()
            local t = {[co] = 'a', [w] = 'b', [f3] = 'c', [f1] = 'd', [print] = 'e', [t0] = 'f', [main] = 'g'}
            local s = ''
            for k, v in pairs(t) do s = s .. v end
            return s, t[co], t[w], t[f3], t[f1], t[print], t[t0], t[main], t[{}], next(t, co) ~= nil
        """
        table = Table(9, 0, 7)
        for key, value in zip([Table(1), Table(2), Table(3), Table(1), Native("print", None), Table(2), Table(0)], "abcdefg"):
            table.put(key, value)
        order = "".join(row[1] for row in table.rows() if row is not None)
        self.check_values(text, order, "a", "b", "c", "d", "e", "f", "g", None, True)


class PrintTest(RunCase):
    def test_rows(self):
        found, _ = self.run_text("print() print(nil) print(1, 'x', true, nil) print('') print(1.5, -0.0, 1e15, 2.0)")
        self.assertEqual(found.log, [(), ("nil",), ("1", "x", "true", "nil"), ("",), ("1.5", "-0.0", "1e+15", "2.0")])
        self.check_values("return print(1)")
        self.check_values("return (print(1))", None)

    def test_texts(self):
        self.check_values("return tostring(nil), tostring(true), tostring(false), tostring('x'), tostring(5), tostring(0.5), tostring(1/0), tostring(0/0)",
                          "nil", "true", "false", "x", "5", "0.5", "inf", "nan")
        self.check_values("local f = function() end return tostring({}), tostring(f), tostring(coroutine.create(f)), tostring(coroutine.wrap(f)), tostring(print)",
                          "table: 2", "function: 1", "thread: 1", "function: 2", "function: print")
        self.check_values("return select('#', tostring(1, 2))", 1)

    def test_the_event(self):
        self.check("""
            local function new(text) return setmetatable({}, {__tostring = function(...) print('asked', select('#', ...)) return text, 'more' end}) end
            print(tostring(new('T')))
            print(1, new('A'), 2, new('B'))
        """, ["asked|1", "T", "asked|1", "asked|1", "1|A|2|B"])
        self.check("local t = setmetatable({}, {__tostring = setmetatable({}, {__call = function(m, t) return 'called ' .. kind(t) end})}) print(t)", ["called table"])
        self.check("local s = setmetatable({}, {__name = 'N', __index = {__tostring = 1}}) print(tostring(s) == 'table: 2' or tostring(s))", ["true"])

    def test_a_wrong_result(self):
        for result in ("nil", "5", "", "{}", "true"):
            text = f"local t = setmetatable({{}}, {{__tostring = function() return {result} end}}) print(pcall(tostring, t)) print(pcall(print, t)) print(pcall(function() tostring(t) end))"
            self.check(text, ["false|'__tostring' must return a string"] * 3)
        self.check_values("return pcall(tostring, setmetatable({}, {__tostring = 5}))", False, "attempt to call a number value")

    def test_wrong_arguments(self):
        for name in ("tostring", "tonumber", "kind"):
            self.check_error(f"@a {name}()", f"@a: bad argument #1 to '{name}' (value expected)")

    def test_kind(self):
        self.check_values("return kind(nil), kind(true), kind(1), kind(1.5), kind('x'), kind({}), kind(print), kind(kind), kind(coroutine.running()),"
                          " kind(coroutine.wrap(print))", "nil", "boolean", "number", "number", "string", "table", "function", "function", "thread", "function")

    def test_tonumber(self):
        self.check_values("return tonumber(5), tonumber(1.5), tonumber('0x10'), tonumber(' 7 '), tonumber('1e1'), tonumber('x'), tonumber(''), tonumber({}),"
                          " tonumber(nil), tonumber(true)", 5, Float(1, 3, -1), 16, 7, Float(1, 5, 1), None, None, None, None, None)


class ErrorTest(RunCase):
    def test_error(self):
        self.check_error("@a error('x', 'y')", "@a: bad argument #2 to 'error' (number expected, got string)")
        self.check_error("@a error('x', 1.5)", "@a: bad argument #2 to 'error' (number has no integer representation)")
        self.check_error("@a error('x', {})", "@a: bad argument #2 to 'error' (number expected, got table)")
        self.check_error("@a error('x', nil)", "@a: x")

    def test_assert(self):
        self.check_values("return assert(1, nil, 3)", 1, None, 3)
        self.check_values("return assert('x')", "x")
        self.check_error("assert(nil)", "assertion failed!")
        self.check_error("assert(false)", "assertion failed!")
        self.check_error("assert(nil, 'why')", "why")
        self.check_error("assert(false, nil)", None)
        self.check_error("assert(nil, 5, 6)", 5)
        self.check_error("assert(nil, {})", ("table", 2))
        self.check_error("@a assert()", "@a: bad argument #1 to 'assert' (value expected)")

    def test_pcall(self):
        self.check_error("@a pcall()", "@a: bad argument #1 to 'pcall' (value expected)")
        self.check_values("return pcall(nil)", False, "attempt to call a nil value")
        self.check_values("return pcall(5, 1)", False, "attempt to call a number value")


class NextTest(RunCase):
    def test_next(self):
        self.check_values("local t = {10, nil, 30, x = 1} return next(t)", 1, 10)
        self.check_values("local t = {10, nil, 30, x = 1} return next(t, 1)", 3, 30)
        self.check_values("local t = {10, nil, 30, x = 1} return next(t, 3)", "x", 1)
        self.check_values("local t = {10, x = 1} return next(t, 'x')", None)
        self.check_values("return next({})", None)
        self.check_values("return next({}, nil)", None)
        self.check_values("local t = {5} return next(t, nil, 7)", 1, 5)
        self.check_values("local t = {5, 6} return next(t, 1.0)", 2, 6)

    def test_wrong_arguments(self):
        for args, got in [("", "no value"), ("nil", "nil"), ("5", "number"), ("'x', 1", "string")]:
            self.check_error(f"@a next({args})", f"@a: bad argument #1 to 'next' (table expected, got {got})")
        for key in ("1", "'x'", "{}", "true", "0.5", "0/0"):
            self.check_error(f"local t = {{}} @a next(t, {key})", "@a: invalid key to 'next'")
        self.check_error("for k in next, 5 do end", "1: bad argument #1 to 'next' (table expected, got number)")

    def test_going_through_a_table_that_changes(self):
        self.check("""
            local t = {1, 2, 3, a = 1, b = 2, c = 3}
            local n = 0
            for k, v in pairs(t) do n = n + 1 t[k] = nil end
            print(n, next(t))
            t = {x = 1, y = 2, z = 3}
            for k, v in pairs(t) do t[k] = v * 10 end
            print(t.x, t.y, t.z)
        """, ["6|nil", "10|20|30"])

    def test_taken_keys_stay_known(self):
        self.check_values("local t = {a = 1} t.a = nil return next(t, 'a')", None)
        self.check_values("local t = {a = 1} t.a = nil collect() return next(t, 'a'), t.a", None, None)

    def test_pairs(self):
        self.check_values("local t = {} local a, b, c, d = pairs(t) return a, b == t, c, d, select('#', pairs(t))", ("native", "next"), True, None, None, 3)
        self.check_values("return pairs(5)", ("native", "next"), 5, None)
        self.check_values("return pairs(nil)", ("native", "next"), None, None)
        self.check_error("@a pairs()", "@a: bad argument #1 to 'pairs' (value expected)")
        self.check_error("@a for k in pairs(5) do end", "@a: bad argument #1 to 'next' (table expected, got number)")

    def test_the_event_of_pairs(self):
        self.check_values("local t = setmetatable({}, {__pairs = function(...) return select('#', ...), 2, 3, 4 end}) return pairs(t)", 1, 2, 3)
        self.check_values("local t = setmetatable({}, {__pairs = function(x) return x end}) return (pairs(t)) == t, pairs(t)", True, ("table", 2), None, None)
        self.check_values("local t = setmetatable({}, {__pairs = function() end}) return pairs(t)", None, None, None)
        self.check_values("return pcall(pairs, setmetatable({}, {__pairs = error}))", False, ("table", 2))

    def test_ipairs(self):
        self.check("for i, v in ipairs({'a', 'b', nil, 'd'}) do print(i, v) end for i in ipairs({}) do print('no') end", ["1|a", "2|b"])
        self.check_values("return ipairs(5)", ("native", "ipairs step"), 5, 0)
        self.check_error("@a ipairs()", "@a: bad argument #1 to 'ipairs' (value expected)")
        self.check_error("@a for i in ipairs(nil) do end", "@a: attempt to index a nil value")
        self.check_values("local t = setmetatable({}, {__index = function(t, i) if i < 4 then return i * i end end})"
                          " local s = 0 for i, v in ipairs(t) do s = s + v end return s", 14)
        self.check_values("local t = setmetatable({1}, {__index = {0, 2}}) local s = '' for i, v in ipairs(t) do s = s .. v end return s", "12")

    def test_the_function_of_ipairs(self):
        self.check_values("local f = ipairs(1) return f({5, 6}, 1)", 2, 6)
        self.check_values("local f = ipairs(1) return f({5, 6}, 2)", None)
        self.check_values("local f = ipairs(1) return f({5, 6}, 0.0)", 1, 5)
        self.check_values("local f = ipairs(1) local t = {} t[-9223372036854775807 - 1] = 'least' return f(t, 9223372036854775807)", -2 ** 63, "least")
        self.check_error("local f = ipairs(1) @a f()", "@a: bad argument #1 to 'for iterator' (value expected)")
        self.check_error("local f = ipairs(1) @a f({})", "@a: bad argument #2 to 'for iterator' (number expected, got no value)")
        self.check_error("local f = ipairs(1) @a f({}, 'x')", "@a: bad argument #2 to 'for iterator' (number expected, got string)")
        self.check_error("local f = ipairs(1) @a f(nil, 0.5)", "@a: bad argument #2 to 'for iterator' (number has no integer representation)")
        self.check_values("local f = ipairs(1) return pcall(f, 5, 0)", False, "attempt to index a number value")


class RawTest(RunCase):
    def test_rawget_and_rawset(self):
        self.check_values("local t = setmetatable({}, {__index = error, __newindex = error}) return rawget(t, 'x'), rawset(t, 'x', 5) == t, rawget(t, 'x'), t.x",
                          None, True, 5, 5)
        self.check_values("local t = {1} return rawset(t, 1, nil) == t, t[1]", True, None)
        for name in ("rawget", "rawset"):
            self.check_error(f"@a {name}()", f"@a: bad argument #1 to '{name}' (table expected, got no value)")
            self.check_error(f"@a {name}('x', 1, 2)", f"@a: bad argument #1 to '{name}' (table expected, got string)")
            self.check_error(f"@a {name}({{}})", f"@a: bad argument #2 to '{name}' (value expected)")
        self.check_error("@a rawset({}, 1)", "@a: bad argument #3 to 'rawset' (value expected)")
        self.check_error("@a rawset({}, nil, 1)", "@a: table index is nil")
        self.check_error("local n = 0/0 @a rawset({}, n, 1)", "@a: table index is NaN")
        self.check_values("return rawget({}, nil), rawget({}, 0/0)", None, None)

    def test_rawequal(self):
        self.check_values("local t = setmetatable({}, {__eq = function() return true end}) local s = setmetatable({}, {__eq = function() return true end})"
                          " return rawequal(t, s), t == s, rawequal(t, t), rawequal(1, 1.0), rawequal('a', 'a'), rawequal(nil, nil), rawequal(0/0, 0/0)",
                          False, True, True, True, True, True, False)
        self.check_error("@a rawequal()", "@a: bad argument #1 to 'rawequal' (value expected)")
        self.check_error("@a rawequal(1)", "@a: bad argument #2 to 'rawequal' (value expected)")

    def test_rawlen(self):
        self.check_values("return rawlen(''), rawlen('abc'), rawlen({}), rawlen(setmetatable({1, 2}, {__len = error}))", 0, 3, 0, 2)
        for value in ("nil", "5", "print", "true"):
            self.check_error(f"@a rawlen({value})", "@a: bad argument #1 to 'rawlen' (table or string expected)")

    def test_metatables(self):
        self.check_values("local m = {} local t = {} return getmetatable(t), setmetatable(t, m) == t, getmetatable(t) == m, setmetatable(t, nil) == t, getmetatable(t)",
                          None, True, True, True, None)
        self.check_values("return getmetatable('x'), getmetatable(5), getmetatable(nil), getmetatable(print)", None, None, None, None)
        self.check_values("local t = setmetatable({}, {__metatable = 'locked'}) return getmetatable(t)", "locked")
        self.check_values("local t = setmetatable({}, {__metatable = false}) return getmetatable(t), pcall(setmetatable, t, nil)", False, False,
                          "cannot change a protected metatable")
        self.check_error("local t = setmetatable({}, {__metatable = 1}) @a setmetatable(t, {})", "@a: cannot change a protected metatable")

    def test_wrong_arguments_of_metatables(self):
        self.check_error("@a getmetatable()", "@a: bad argument #1 to 'getmetatable' (value expected)")
        self.check_error("@a setmetatable()", "@a: bad argument #1 to 'setmetatable' (table expected, got no value)")
        self.check_error("@a setmetatable(nil, {})", "@a: bad argument #1 to 'setmetatable' (table expected, got nil)")
        for value in ("", ", 5", ", 'x'", ", print", ", false"):
            self.check_error(f"local t = setmetatable({{}}, {{__metatable = 1}}) @a setmetatable(t{value})",
                             "@a: bad argument #2 to 'setmetatable' (nil or table expected)")

    def test_surplus_arguments(self):
        self.check_values("return rawlen('x', 1), rawget({5}, 1, 2), rawequal(1, 1, 2), kind(1, 2), tonumber('5', 16), select('#', collect(1, 2))", 1, 5, True, "number", 5, 0)


class CalledByOthersTest(RunCase):
    """Functions of the library that are called by events, by pcall and by one another."""

    def test_as_events(self):
        self.check_values("return tostring(setmetatable({}, {__tostring = kind}))", "table")
        self.check_values("return #setmetatable({1, 2}, {__len = rawlen}), setmetatable({}, {__index = rawequal}).x", 2, False)
        self.check_values("local t = setmetatable({5}, {__pairs = next}) return pairs(t)", 1, 5, None)
        self.check_values("local t = setmetatable({}, {__newindex = rawset}) t.x = 5 return t.x", 5)
        self.check_values("return setmetatable({}, {__call = select})", ("table", 2))
        self.check_values("return unpack(setmetatable({}, {__index = function(t, i) return i end, __len = rawlen}), 1, 3)", 1, 2, 3)

    def test_errors_have_the_line_of_what_is_topmost(self):
        self.check_error("local t = setmetatable({}, {__add = rawlen}) @a local x = 1 + t", "@a: bad argument #1 to 'rawlen' (table or string expected)")
        self.check_error("local t = setmetatable({}, {__index = rawset}) @a local x = t.x", "@a: bad argument #3 to 'rawset' (value expected)")
        self.check_error("local t = setmetatable({}, {__index = rawset}) unpack(t, 1, 1)", "bad argument #3 to 'rawset' (value expected)")
        self.check_error("local t = setmetatable({}, {__tostring = next, __metatable = 1}) @a tostring(t)", "'__tostring' must return a string")
        self.check_values("return pcall(setmetatable, 5)", False, "bad argument #1 to 'setmetatable' (table expected, got number)")
        self.check_error("@a for k in rawlen, 5 do end", "@a: bad argument #1 to 'rawlen' (table or string expected)")
        self.check_error("local t = setmetatable({}, {__close = rawget}) @a do local x <close> = t end @b rawget(t)",
                         "@b: bad argument #2 to 'rawget' (value expected)")
        self.check_values("return pcall(function() local x <close> = setmetatable({}, {__close = select}) error('x', 0) end)", False,
                          "bad argument #1 to 'select' (number expected, got table)")

    def test_by_one_another(self):
        self.check_values("return pcall(pcall, pcall, rawlen, 'abc')", True, True, True, 3)
        self.check_values("return pcall(select, 2, 'a', 'b')", True, "b")
        self.check_values("return select(-1, pcall(error, 'x'))", "x")
        self.check("print(pcall(print, 1)) print(pcall(tostring, 5)) print(pcall(collect))", ["1", "true", "true|5", "true"])


class SelectTest(RunCase):
    def test_select(self):
        self.check_values("return select('#'), select('#', nil, nil), select('#', 1)", 0, 2, 1)
        self.check_values("return select(1, 'a', 'b', 'c')", "a", "b", "c")
        self.check_values("return select(3, 'a', 'b', 'c')", "c")
        self.check_values("return select(4, 'a', 'b', 'c')")
        self.check_values("return select(9223372036854775807, 'a')")
        self.check_values("return select(-1, 'a', 'b', 'c')", "c")
        self.check_values("return select(-3, 'a', 'b', 'c')", "a", "b", "c")
        self.check_values("return select(2.0, 'a', 'b')", "b")

    def test_wrong_arguments(self):
        for args in ("0", "0, 1", "-1", "-4, 1, 2, 3", "-9223372036854775807 - 1, 1"):
            self.check_error(f"@a select({args})", "@a: bad argument #1 to 'select' (index out of range)")
        self.check_error("@a select()", "@a: bad argument #1 to 'select' (number expected, got no value)")
        self.check_error("@a select('x')", "@a: bad argument #1 to 'select' (number expected, got string)")
        self.check_error("@a select('1', 2)", "@a: bad argument #1 to 'select' (number expected, got string)")
        self.check_error("@a select(1.5)", "@a: bad argument #1 to 'select' (number has no integer representation)")

    def test_unpack(self):
        self.check_values("return unpack({1, 2, 3})", 1, 2, 3)
        self.check_values("return unpack({1, 2, 3}, 2)", 2, 3)
        self.check_values("return unpack({1, 2, 3}, 2, 2)", 2)
        self.check_values("return unpack({1, 2, 3}, 0, 4)", None, 1, 2, 3, None)
        self.check_values("return unpack({1, 2, 3}, 3, 2)")
        self.check_values("return unpack({1, 2, 3}, nil, nil)", 1, 2, 3)
        self.check_values("return unpack({}, 9223372036854775807, 9223372036854775807)", None)
        self.check_values("return unpack({}, 9223372036854775807, -9223372036854775807)")
        self.check_values("return unpack({'x'}, 1.0, 1.0)", "x")

    def test_many_values(self):
        self.check_values("return select('#', unpack({}, 1, 250))", 250)
        for args in ("1, 251", "-9223372036854775807, 9223372036854775807", "0, 250"):
            self.check_error(f"local x = {{}} @a unpack(x, {args})", "@a: too many results to unpack")
        self.check_error("@a unpack(nil, 1, 1000)", "@a: too many results to unpack")

    def test_events(self):
        self.check("""
            local t = setmetatable({}, {__index = function(t, i) print('index', i) return i * 10 end, __len = function(t, s) print('len', t == s) return 3.0 end})
            print(unpack(t))
            print(unpack(t, 2))
            print(unpack(t, 5, 6))
        """, ["len|true", "index|1", "index|2", "index|3", "10|20|30", "len|true", "index|2", "index|3", "20|30", "index|5", "index|6", "50|60"])
        self.check_values("return unpack(setmetatable({}, {__index = {7, 8}}), 1, 2)", 7, 8)

    def test_things_that_are_no_tables(self):
        self.check_error("@a unpack('abc', 1, 2)", "@a: attempt to index a string value")
        self.check_error("@a unpack(5)", "@a: attempt to get length of a number value")
        self.check_values("return unpack('', 2, 1)")
        self.check_values("return pcall(unpack, 'abc')", False, "attempt to index a string value")

    def test_wrong_lengths(self):
        for length in ("nil", "'3'", "1.5", "{}", "0/0"):
            text = f"local t = setmetatable({{}}, {{__len = function() return {length} end}}) "
            self.check_error(text + "@a unpack(t)", "object length is not an integer")
            self.check_values(text + "return unpack(t, 1, 0)")
        # Once it is a frame, its errors have no line.
        self.check_error("local t = setmetatable({}, {__len = function() return 1000 end}) unpack(t)", "too many results to unpack")
        self.check_error("local t = setmetatable({}, {__len = function() return 1 end, __index = 5}) unpack(t)", "attempt to index a number value")
        self.check_error("local t = setmetatable({}, {__index = 5}) @a unpack(t, 1, 1)", "@a: attempt to index a number value")

    def test_wrong_arguments_of_unpack(self):
        self.check_error("@a unpack()", "@a: bad argument #1 to 'unpack' (value expected)")
        self.check_error("@a unpack({}, 'x')", "@a: bad argument #2 to 'unpack' (number expected, got string)")
        self.check_error("@a unpack(nil, 1, 'x')", "@a: bad argument #3 to 'unpack' (number expected, got string)")
        self.check_error("@a unpack(nil, 1.5, 'x')", "@a: bad argument #2 to 'unpack' (number has no integer representation)")
        # The length is asked behind i.
        self.check_error("local t = setmetatable({}, {__len = function() print('asked') end}) @a unpack(t, true)",
                         "@a: bad argument #2 to 'unpack' (number expected, got boolean)")

    def test_it_is_a_frame_from_its_first_call_on(self):
        self.check("""
            local t = setmetatable({}, {__index = function(t, i) error('x', 2) end, __tostring = function() error('y', 2) end, __pairs = function() error('z', 2) end,
              __len = function() error('l', 3) end})
            @a print(pcall(function() @b local x = unpack(t, 1, 1) end))
            print(pcall(function() local x = tostring(t) end))
            print(pcall(function() local x = pairs(t) end))
            print(pcall(function() @c local x = unpack(t) end))
        """, ["false|x", "false|y", "false|z", "false|@c: l"])


if __name__ == "__main__":
    unittest.main()
