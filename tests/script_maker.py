"""Programs made by chance, as texts, that use the library: coroutines, closers, errors, events, collections."""

import random

BEGINNING = """
local turn = 0
local many = 0
local alive = setmetatable({}, {__mode = 'v'})
local wk = setmetatable({}, {__mode = 'k'})
local wkv = setmetatable({}, {__mode = 'kv'})
local cr = coroutine
local function show(...)
  local row = {}
  for i = 1, select('#', ...) do
    local v = select(i, ...)
    local k = kind(v)
    if k == 'table' then row[i] = 't' .. tostring(rawget(v, 'id'))
    elseif k == 'function' or k == 'thread' then row[i] = k
    else row[i] = tostring(v) end
  end
  print(unpack(row))
end
local meta = {}
local function new(id)
  many = many + 1
  local t = setmetatable({id = id or many}, meta)
  if LIVE then alive[many] = t end
  return t
end
local function look(...)
  if LIVE then
    collect()
    local s = ''
    for i = 1, many do s = s .. (alive[i] and '1' or '0') end
    local w = 0
    for _, v in next, wk do w = w + v end
    for _, v in next, wkv do w = w + v end
    print(s, w)
  end
  return ...
end
local function event(word)
  return function(x, y, z)
    turn = turn + 1
    show(word, x, y, z)
    look()
    local pick = turn % 11
    if pick == 3 and cr.isyieldable() then show('back', cr.yield(word, x)) end
    if pick == 5 and turn % 2 == 0 then error('bad ' .. word, turn % 4) end
    if pick == 7 and turn % 3 == 0 then error(new()) end
    if word == 'tostring' then return pick == 8 and 8 or 'o' end
    if word == 'len' then return 3 end
    if word == 'close' then return end
    if word == 'call' then if pick % 2 == 0 then return y, turn, z end return new(), y end
    if pick % 4 == 0 then return x end
    if pick % 4 == 1 then return turn end
    return new()
  end
end
for _, word in ipairs({'index', 'newindex', 'add', 'sub', 'mul', 'div', 'idiv', 'mod', 'band', 'bor', 'bxor', 'shl', 'shr',
  'unm', 'bnot', 'concat', 'len', 'eq', 'lt', 'le', 'call', 'close', 'tostring'}) do meta['__' .. word] = event(word) end
local function iter(s, c)
  turn = turn + 1
  if turn % 5 == 0 and cr.isyieldable() then cr.yield('iter') end
  if (c or 0) < 3 then return (c or 0) + 1, s end
end
"""
ENDING = """
for i = 1, 12 do
  if kind(list[i]) == 'function' then show('run', pcall(list[i], i))
    local co = cr.create(list[i])
    for j = 1, 6 do
      if cr.status(co) ~= 'dead' then show('res', cr.resume(co, j)) end
    end
    look()
    show('cl', pcall(cr.close, co))
    show(cr.close(co))
    local w = cr.wrap(list[i])
    for j = 1, 4 do show('wrap', pcall(w, j)) end
  end
end
"""


class ScriptMaker:
    """Makes one text."""

    def __init__(self, seed, with_memory=True):
        self.chance = random.Random(seed)
        self.pick = self.chance.choice
        self.with_memory = with_memory
        self.in_loop = 0
        self.has_dots = True
        self.labels = 0
        self.left = 70

    def odds(self, part):
        return self.chance.random() < part

    def text(self):
        rows = ["LIVE = " + ("true" if self.with_memory else "false"), BEGINNING, "local a, b, c, d = 1, new(), new(), 'x'", "list = {}"]
        for at in range(1, self.chance.randint(2, 4)):
            rows.append(f"list[{at}] = {self.function(0)}")
        rows.append(ENDING)
        if self.with_memory and self.odds(0.5):
            rows.insert(-1, "meta.__gc = function(t) show('gc', t) look() if turn % 3 == 0 then error('gc') end "
                            "if turn % 4 == 0 then kept = t end end")
        return "\n".join(rows)

    # Expressions.

    def expression(self, deep=0):
        if deep > 2 or self.odds(0.4):
            return self.pick(["a", "b", "c", "d", "b", "c", "g", "1", "2", "0.5", "'s'", "nil", "true", "new()", "new()", "b"])
        make = lambda: self.expression(deep + 1)
        kind = self.pick("op op op cmp and or not unary call call index index method table function dots pcall paren lib yield yield".split())
        if kind == "op":
            return f"({self.object(deep)} {self.pick('+ - * // % .. | & ~ << >> /'.split())} {make()})"
        if kind == "cmp":
            return f"({make()} {self.pick('< > <= >= == ~='.split())} {self.object(deep)})"
        if kind in ("and", "or"):
            return f"({make()} {kind} {make()})"
        if kind == "not":
            return f"(not {make()})"
        if kind == "unary":
            return f"({self.pick('- # ~'.split())} {self.object(deep)})"
        if kind == "call":
            return f"{self.called(deep)}({self.list(deep)})"
        if kind == "index":
            return f"{self.object(deep)}[{make()}]" if self.odds(0.5) else f"{self.object(deep)}.x"
        if kind == "method":
            return f"{self.object(deep)}:m({self.list(deep)})"
        if kind == "table":
            return "{" + ", ".join(self.pick([make(), make(), f"[{make()}] = {make()}", f"k = {make()}"]) for _ in range(self.chance.randint(0, 3))) + "}"
        if kind == "function":
            return self.function(deep + 1) if self.left > 0 else "iter"
        if kind == "dots":
            return "(...)" if self.has_dots else "a"
        if kind == "pcall":
            return f"pcall({self.called(deep)}, {make()})"
        if kind == "paren":
            return f"({self.called(deep)}({self.list(deep)}))"
        if kind == "yield":
            return f"cr.yield({self.list(deep)})"
        return self.library(deep)

    def object(self, deep):
        return self.pick(["b", "c", "new()", "b", "c", "look(b)"]) if self.odds(0.93) else f"({self.expression(deep + 1)})"

    def called(self, deep):
        if self.odds(0.95):
            return self.pick(["look", "b", "c", "iter", "new", "look", "show"])
        return self.pick(["g", "a", f"({self.expression(deep + 1)})"])

    def list(self, deep, least=0):
        return ", ".join(self.expression(deep + 1) for _ in range(self.chance.randint(least, 2)))

    def library(self, deep):
        make = lambda: self.expression(deep + 1)
        return self.pick([
            lambda: f"select({self.pick(['-1', '1', '2', '-2', '3', quoted('#')])}, {make()}, {make()})", lambda: f"tostring({self.pick(['a', 'b', '1', 'new()'])})",
            lambda: f"rawequal({make()}, {make()})", lambda: f"rawlen({self.object(deep)})", lambda: f"rawget(b, {make()})", lambda: f"next({self.object(deep)})",
            lambda: f"unpack({self.pick(['b', 'c', '{1, 2, 3}'])}, 1, 2)", lambda: f"unpack({self.object(deep)})", lambda: f"tonumber({make()})",
            lambda: f"kind({make()})", lambda: f"assert({make()}, {make()})", lambda: f"pcall(error, {make()}, {self.pick(['0', '1', '2', '3'])})",
            lambda: f"pcall(cr.status, {self.pick(['cr.running()', 'co', 'b'])})", lambda: "select(2, cr.running())", lambda: "cr.isyieldable()",
            lambda: f"cr.wrap({self.function(deep + 1) if self.left > 0 else 'look'})({make()})",
            lambda: f"pcall(cr.resume, co, {make()})", lambda: f"pcall(cr.close, co)", lambda: f"pcall(error, {make()})", lambda: f"pcall(cr.yield, {make()})",
            lambda: f"cr.create({self.pick(['look', 'iter', 'b', 'print', 'cr.yield', 'pcall', 'tostring'])})",
            lambda: f"pcall(tostring, {make()})", lambda: f"setmetatable({{}}, {{__index = {self.pick(['b', 'look', '{x = 1}'])}}})",
        ])()

    def function(self, deep):
        kept = self.in_loop, self.has_dots
        self.in_loop, self.has_dots = 0, self.odds(0.5)
        params = self.pick(["", "a", "d", "a, d", "i"])
        dots = "..." if self.has_dots else ""
        text = f"function({params}{', ' if params and dots else ''}{dots}) {self.block(deep + 1)} end"
        self.in_loop, self.has_dots = kept
        return text

    # Statements.

    def block(self, deep, least=1):
        rows = [self.statement(deep) for _ in range(self.chance.randint(least, 4))]
        if self.odds(0.25):
            self.labels += 1
            word = f"l{self.labels}"
            place = self.chance.randint(0, len(rows))
            rows.insert(place, f"::{word}::")
            inside = f"if turn % {self.chance.randint(2, 5)} == 0 then turn = turn + 1 goto {word} end"
            if self.odds(0.7) or any(row.startswith("local") for row in rows[:place]):
                rows.append(inside)
            else:
                rows.insert(0, inside)
        if self.odds(0.3):
            rows.append("return " + self.pick([self.list(0), f"{self.called(0)}({self.list(0)})", f"b:m({self.list(0)})"]))
        return "\n".join(rows)

    def statement(self, deep):
        self.left -= 1
        kinds = "local local set set call call closed closed show weak co"
        if deep < 5 and self.left > 0:
            kinds += " do while repeat if for forin fun pairs pcall pcall closed break error"
        kind = self.pick(kinds.split())
        return getattr(self, "state_" + kind)(deep)

    def state_local(self, deep):
        if self.odds(0.4):
            return f"local {self.pick('bc')} = {self.pick(['new()', 'look(new())', 'new()', 'b', 'c'])}"
        return f"local {self.pick(['a', 'd', 'a, d', 'a, d, i', 'i <const>'])} = {self.list(0, 1)}"

    def state_closed(self, deep):
        value = self.pick(["new()", "new()", "new()", "nil", "look(new())", "b", "a" if self.odds(0.2) else "c"])
        return f"local {self.pick(['e <close>', 'e <close>, i', 'i, e <close>'])} = {value}, {self.expression(2)}".replace("i, e <close> = ", "i, e <close> = nil, ")

    def state_set(self, deep):
        target = lambda: self.pick(["a", "d", "g", "h", f"b[{self.key()}]", f"{self.pick('bc')}.x", f"c[{self.key()}]"])
        return f"{', '.join(target() for _ in range(self.chance.randint(1, 2)))} = {self.list(0, 1)}"

    def key(self):
        return self.pick(["1", "2", "'k'", "b", "turn", "new()"]) if self.odds(0.95) else self.expression(1)

    def state_call(self, deep):
        return self.pick([f"{self.pick(['look', 'b', 'show', 'iter', 'c'])}({self.list(0)})", f"b:m({self.list(0)})", f"cr.yield({self.list(0)})"])

    def state_show(self, deep):
        return f"show({self.expression()}, {self.expression()})"

    def state_weak(self, deep):
        return self.pick(["wk[b] = 1", "wk[c] = 2", "wkv[c] = 4", "wk[new()] = 8", "g = new()", "g = nil", "look()", "h = b", "wk[b] = nil"])

    def state_co(self, deep):
        return f"co = cr.create({self.function(deep + 1) if self.left > 0 else 'look'})"

    def state_error(self, deep):
        return f"if turn % 2 == 0 then error({self.expression()}, {self.pick(['0', '1', '2'])}) end"

    def state_do(self, deep):
        return f"do {self.block(deep + 1)} end"

    def looped(self, deep):
        self.in_loop += 1
        found = self.block(deep + 1)
        self.in_loop -= 1
        return found

    def state_while(self, deep):
        return f"do local n = 0 while n < {self.chance.randint(1, 3)} do n = n + 1 {self.looped(deep)} end end"

    def state_repeat(self, deep):
        closed = self.pick(["", "", "local e <close> = new()", "local e <close> = look(b)"])
        return f"do local n = 0 repeat n = n + 1 local i = b {closed} do {self.looped(deep)} end until n > 2 or {self.expression(1)} end"

    def state_if(self, deep):
        return f"if {self.expression(1)} then {self.block(deep + 1)} elseif {self.expression(1)} then {self.block(deep + 1)} else {self.block(deep + 1)} end"

    def state_for(self, deep):
        limits = self.pick(["1, 2", "1, 3", "3, 1, -1", "1, 2, 0.5", "1, 2", f"1, {self.expression(2)}" if self.odds(0.2) else "1, 2", "1, 0"])
        return f"for {self.pick(['a', 'i'])} = {limits} do {self.looped(deep)} end"

    def state_forin(self, deep):
        values = self.pick(["iter", "iter, b", "iter, c, 1", "iter, b, 0, new()", "iter, nil, nil, look(new())", "iter, b, nil, c", "look(iter, b, 1, new())"])
        return f"for {self.pick(['a', 'k, v', 'i, a'])} in {values} do {self.looped(deep)} end"

    def state_pairs(self, deep):
        return f"for k, v in {self.pick(['ipairs', 'pairs'])}({self.pick(['{1, 2}', '{new(), x = 1}', '{b, c}', '{x = b, 7}'])}) do {self.looped(deep)} end"

    def state_fun(self, deep):
        return f"local function {self.pick(['iter', 'g', 'look2'])}(...) {self.plain_block(deep)} end"

    def plain_block(self, deep):
        kept = self.in_loop, self.has_dots
        self.in_loop, self.has_dots = 0, True
        found = self.block(deep + 1)
        self.in_loop, self.has_dots = kept
        return found

    def state_pcall(self, deep):
        return f"show('pc', pcall({self.function(deep + 1)}, {self.expression(1)}))"

    def state_break(self, deep):
        return f"if turn % 3 == {self.chance.randint(0, 2)} then break end" if self.in_loop else "turn = turn + 1"


def quoted(word):
    return f"'{word}'"
