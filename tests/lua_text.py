"""Programs written as texts, nearly as in Lua, so that tests can be read.

A word behind @ ahead of a statement names its line: in the texts that a test expects, @word stands for it.
"""

import re

from upvalues.numbers import Float
from upvalues.numerals import read_number
from upvalues.programs import statement_paths

SIGNS = r"\.\.\.|\.\.|==|~=|<=|>=|<<|>>|//|::|[-+*/%&|~#<>=(){}\[\];:,.]"
TOKENS = re.compile(rf"\s+|--[^\n]*|(?P<mark>@\w+)|(?P<name>[A-Za-z_]\w*)|(?P<number>0[xX][0-9a-fA-F]+|\d+\.?\d*(?:[eE][-+]?\d+)?)"
                    rf"|(?P<string>'[^']*'|\"[^\"]*\")|(?P<sign>{SIGNS})")
WORDS = set("and break do else elseif end false for function goto if in local nil not or repeat return then true until while".split())
LEVELS = [
    {"or": "or"}, {"and": "and"},
    {"<": "lt", ">": "gt", "<=": "le", ">=": "ge", "~=": "ne", "==": "eq"},
    {"|": "bor"}, {"~": "bxor"}, {"&": "band"}, {"<<": "shl", ">>": "shr"}, {"..": "concat"},
    {"+": "add", "-": "sub"}, {"*": "mul", "/": "div", "//": "floor", "%": "mod"},
]
UNARIES = {"-": "neg", "not": "not", "#": "len", "~": "bnot"}


def tokens_of(text):
    found = []
    at = 0
    while at < len(text):
        one = TOKENS.match(text, at)
        if not one:
            raise SyntaxError(text[at:at + 20])
        at = one.end()
        if one.lastgroup:
            kind = "sign" if one.lastgroup == "name" and one.group() in WORDS else one.lastgroup
            found.append((kind, one.group()))
    return found + [("end", "")]


class Reader:
    """Reads a text."""

    def __init__(self, text):
        self.tokens = tokens_of(text)
        self.at = 0
        self.marks = []

    def peek(self, *words):
        kind, word = self.tokens[self.at]
        return kind == "sign" and word in words

    def take(self, *words):
        if self.peek(*words):
            self.at += 1
            return self.tokens[self.at - 1][1]
        return None

    def need(self, word):
        if not self.take(word):
            raise SyntaxError(f"{word} wanted, not {self.tokens[self.at:self.at + 5]}")

    def kind(self):
        return self.tokens[self.at][0]

    def name(self):
        kind, word = self.tokens[self.at]
        if kind != "name":
            raise SyntaxError(f"a name wanted, not {self.tokens[self.at:self.at + 5]}")
        self.at += 1
        return word

    def names(self):
        found = [self.name()]
        while self.take(","):
            found.append(self.name())
        return tuple(found)

    def block(self):
        rows = []
        while not self.peek("end", "else", "elseif", "until") and self.kind() != "end":
            mark = None
            if self.kind() == "mark":
                mark = self.tokens[self.at][1][1:]
                self.at += 1
            if self.take(";"):
                continue
            row = tuple(list(self.statement()))
            rows.append(row)
            if mark:
                self.marks.append((mark, row))
        return tuple(rows)

    def statement(self):
        word = self.take("local", "do", "while", "repeat", "if", "for", "function", "return", "break", "goto", "::")
        if word is None:
            return self.plain()
        if word == "::":
            found = ("label", self.name())
            self.need("::")
            return found
        return getattr(self, "read_" + word)()

    def ended(self):
        found = self.block()
        self.need("end")
        return found

    def read_local(self):
        if self.take("function"):
            return ("localfun", self.name(), self.function())
        names, marks = [], []
        while True:
            names.append(self.name())
            marks.append(None)
            if self.take("<"):
                marks[-1] = self.name()
                self.need(">")
            if not self.take(","):
                break
        return ("local", tuple(names), tuple(marks), self.expressions() if self.take("=") else ())

    def read_do(self):
        return ("do", self.ended())

    def read_while(self):
        question = self.expression()
        self.need("do")
        return ("while", question, self.ended())

    def read_repeat(self):
        block = self.block()
        self.need("until")
        return ("repeat", block, self.expression())

    def read_if(self):
        arms, other = [], None
        while True:
            question = self.expression()
            self.need("then")
            arms.append((question, self.block()))
            if not self.take("elseif"):
                break
        if self.take("else"):
            other = self.block()
        self.need("end")
        return ("if", tuple(arms), other)

    def read_for(self):
        names = self.names()
        if self.take("="):
            values = self.expressions()
            self.need("do")
            start, limit, *step = values
            return ("for", names[0], start, limit, step[0] if step else None, self.ended())
        self.need("in")
        values = self.expressions()
        self.need("do")
        return ("forin", names, values, self.ended())

    def read_function(self):
        target = ("name", self.name())
        while self.take("."):
            target = ("index", target, ("string", self.name()))
        return ("set", (target,), (self.function(),))

    def read_return(self):
        if self.peek("end", "else", "elseif", "until", ";") or self.kind() in ("end", "mark"):
            found = ("return", ())
        else:
            found = ("return", self.expressions())
        self.take(";")
        return found

    def read_break(self):
        return ("break",)

    def read_goto(self):
        return ("goto", self.name())

    def plain(self):
        one = self.suffixed()
        if self.peek(",", "="):
            targets = [one]
            while self.take(","):
                targets.append(self.suffixed())
            self.need("=")
            return ("set", tuple(targets), self.expressions())
        return ("call", one)

    def function(self):
        self.need("(")
        params, dots = [], False
        while not self.take(")"):
            if self.take("..."):
                dots = True
            else:
                params.append(self.name())
            self.take(",")
        return ("function", tuple(params), dots, self.ended())

    def expressions(self):
        found = [self.expression()]
        while self.take(","):
            found.append(self.expression())
        return tuple(found)

    def expression(self, level=0):
        if level == len(LEVELS):
            return self.unary()
        one = self.expression(level + 1)
        while self.peek(*LEVELS[level]):
            word = LEVELS[level][self.take(*LEVELS[level])]
            # Putting together goes from the right.
            other = self.expression(level if word == "concat" else level + 1)
            one = (word, one, other) if word in ("and", "or") else ("op", word, one, other)
        return one

    def unary(self):
        word = self.take(*UNARIES)
        if word is None:
            return self.simple()
        one = self.unary()
        if word == "-" and one[0] == "number":
            return ("number", -one[1] if isinstance(one[1], int) else Float(-one[1].sign, one[1].top, one[1].power))
        return ("unary", UNARIES[word], one)

    def simple(self):
        kind, word = self.tokens[self.at]
        if kind == "number":
            self.at += 1
            return ("number", read_number(word))
        if kind == "string":
            self.at += 1
            return ("string", word[1:-1])
        word = self.take("nil", "true", "false", "...", "function", "{")
        if word == "function":
            return self.function()
        if word == "{":
            return self.table()
        if word == "...":
            return ("dots",)
        return (word,) if word else self.suffixed()

    def table(self):
        items = []
        while not self.take("}"):
            if self.take("["):
                key = self.expression()
                self.need("]")
                self.need("=")
                items.append(("pair", key, self.expression()))
            elif self.kind() == "name" and self.tokens[self.at + 1] == ("sign", "="):
                key = self.name()
                self.need("=")
                items.append(("pair", ("string", key), self.expression()))
            else:
                items.append(("item", self.expression()))
            self.take(",")
        return ("table", tuple(items))

    def suffixed(self):
        if self.take("("):
            one = ("paren", self.expression())
            self.need(")")
        else:
            one = ("name", self.name())
        while True:
            if self.take("."):
                one = ("index", one, ("string", self.name()))
            elif self.take("["):
                one = ("index", one, self.expression())
                self.need("]")
            elif self.take(":"):
                word = self.name()
                one = ("method", one, word, self.arguments())
            elif self.peek("("):
                one = ("call", one, self.arguments())
            else:
                return one

    def arguments(self):
        self.need("(")
        if self.take(")"):
            return ()
        found = self.expressions()
        self.need(")")
        return found


def read(text):
    """The program of a text, and the lines of the statements that are named."""
    reader = Reader(text)
    program = reader.block()
    if reader.kind() != "end":
        raise SyntaxError(str(reader.tokens[reader.at:reader.at + 5]))
    lines = {}
    for line, path in enumerate(statement_paths(program), 1):
        node = program
        for place in path:
            node = node[place]
        for mark, row in reader.marks:
            if row is node:
                lines[mark] = line
    assert len(lines) == len(reader.marks), "a name for a line stands twice"
    return program, lines


def program_of(text):
    """The program of a text."""
    return read(text)[0]
