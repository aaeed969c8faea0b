"""Programs made by chance that run for a while: they probe what is live, close, jump, capture and fail."""

import random

from builders import refusal
from upvalues.numbers import Float
from upvalues.programs import check_program

OPS = "add sub mul div floor mod band bor bxor shl shr concat eq ne lt le gt ge".split()
UNARIES = "neg not len bnot".split()
NUMBERS = [0, 1, 2, 3, -1, Float(1, 1, -1), Float(1, 3, 0)]


class RunMaker:
    """Makes one program."""

    def __init__(self, seed, deep=4):
        self.chance = random.Random(seed)
        self.pick = self.chance.choice
        self.deep = deep
        self.labels = []
        self.has_dots = True
        self.left = 90

    def odds(self, part):
        return self.chance.random() < part

    def program(self):
        return self.block(0, False, 12)

    def word(self):
        return self.pick("a a b b c d _ENV".split() if self.odds(0.02) else "a a a b b c d".split())

    def few(self, make, least=0, most=2):
        return tuple(make() for _ in range(self.chance.randint(least, most)))

    # Expressions.

    def expression(self, deep=0):
        simple = deep > 2 or self.odds(0.35)
        kind = self.pick("name name name literal object" .split() if simple else
                         "call call probe probe object index op op and or paren unary table method function dots protected".split())
        return getattr(self, "make_" + kind)(deep)

    def make_name(self, deep):
        return ("name", self.pick(["a", "b", "c", "d", "a", "b", "g", "h"]))

    def make_literal(self, deep):
        return self.pick([("nil",), ("true",), ("false",), ("string", "s"), ("string", "m"), ("number", self.pick(NUMBERS))])

    def make_object(self, deep):
        return ("call", ("name", "obj"), ())

    def make_probe(self, deep):
        return ("call", ("name", "probe"), self.list(deep))

    def list(self, deep, least=0, most=2):
        return self.few(lambda: self.expression(deep + 1), least, most)

    def make_call(self, deep):
        return ("call", self.pick([self.make_name(deep), self.make_object(deep), self.make_name(deep), self.expression(deep + 1)]), self.list(deep))

    def make_protected(self, deep):
        inner = self.pick([self.make_function(deep), self.make_name(deep), ("name", "fail")])
        return ("call", ("name", "pcall"), (inner,) + self.list(deep))

    def make_method(self, deep):
        return ("method", self.pick([self.make_object(deep), self.make_name(deep)]), "m", self.list(deep))

    def make_index(self, deep):
        return ("index", self.pick([self.make_object(deep), self.make_name(deep)]), self.expression(deep + 1))

    def make_op(self, deep):
        return ("op", self.pick(OPS), self.expression(deep + 1), self.expression(deep + 1))

    def make_and(self, deep):
        return ("and", self.expression(deep + 1), self.expression(deep + 1))

    def make_or(self, deep):
        return ("or", self.expression(deep + 1), self.expression(deep + 1))

    def make_paren(self, deep):
        return ("paren", self.expression(deep + 1))

    def make_unary(self, deep):
        return ("unary", self.pick(UNARIES), self.expression(deep + 1))

    def make_dots(self, deep):
        return ("dots",) if self.has_dots else ("nil",)

    def make_table(self, deep):
        many = 53 if self.odds(0.05) else self.chance.randint(0, 3)
        items = [self.item(deep, many) for _ in range(many)]
        if items and self.odds(0.3):
            items[-1] = ("item", self.make_probe(deep))
        return ("table", tuple(items))

    def item(self, deep, many):
        deep = 2 if many > 5 else deep + 1
        if self.odds(0.7):
            return ("item", self.expression(deep))
        return ("pair", self.pick([("string", "k"), ("number", 2), self.expression(deep)]), self.expression(deep))

    def make_function(self, deep):
        kept = self.labels, self.has_dots
        self.labels, self.has_dots = [], self.odds(0.4)
        dots = self.has_dots
        if self.left > 0:
            block = self.block(self.deep - 2, False, 3)
        else:
            block = (("return", (("name", "a"),)),)
        self.labels, self.has_dots = kept
        return ("function", self.few(self.word), dots, block)

    # Statements.

    def block(self, deep, in_loop, most):
        here = "".join([self.pick("pqrs"), str(len(self.labels))]) if self.odds(0.5) else None
        if here:
            self.labels.append(here)
        rows = [self.statement(deep, in_loop) for _ in range(self.chance.randint(1 if deep else 4, most))]
        if here:
            self.labels.pop()
            place = self.pick([0, len(rows), self.chance.randint(0, len(rows))])
            rows.insert(place, ("label", here))
        if self.odds(0.2 if deep else 0.5):
            rows.append(("return", self.pick([self.list(0), (self.make_call(0),), (self.make_method(0),)])))
        return tuple(rows)

    def statement(self, deep, in_loop):
        self.left -= 1
        plain = "local local local set set call call call closed closed"
        if deep >= self.deep or self.left < 0:
            kind = self.pick((plain + " goto").split())
        else:
            kind = self.pick((plain + " localfun localfun do do while repeat if if for for forin forin goto goto break").split())
        if kind == "goto" and not self.labels or kind == "break" and not in_loop:
            kind = "call"
        return getattr(self, "state_" + kind)(deep, in_loop)

    def state_local(self, deep, in_loop):
        names = self.few(self.word, 1, 3)
        marks = tuple(self.pick([None, None, None, "const"]) for _ in names)
        return ("local", names, marks, self.list(0, 0, 4))

    def state_closed(self, deep, in_loop):
        values = self.pick([(self.make_object(0),), (self.make_object(0), self.make_probe(0)), (self.make_literal(0),)] + [(self.make_object(0),)] * 4)
        return self.pick([("local", ("c",), ("close",), values), ("local", ("c", "d"), ("close", None), values)])

    def state_localfun(self, deep, in_loop):
        return ("localfun", self.pick("ab"), self.make_function(0))

    def state_set(self, deep, in_loop):
        target = lambda: self.pick([("name", self.pick(["a", "b", "g", "h"])), ("index", self.expression(2), self.expression(2))])
        return ("set", self.few(target, 1, 3), self.list(0, 1, 4))

    def state_call(self, deep, in_loop):
        return ("call", self.pick([self.make_call(0), self.make_probe(0), self.make_method(0), self.make_protected(0)]))

    def state_do(self, deep, in_loop):
        return ("do", self.block(deep + 1, in_loop, 4))

    def question(self):
        return self.pick([self.make_op(1), self.make_probe(1), self.make_name(1), ("op", "lt", self.make_object(0), self.make_object(0))])

    def state_while(self, deep, in_loop):
        return ("while", self.question(), self.block(deep + 1, True, 3))

    def state_repeat(self, deep, in_loop):
        return ("repeat", self.block(deep + 1, True, 3), self.question())

    def state_if(self, deep, in_loop):
        arms = self.few(lambda: (self.question(), self.block(deep + 1, in_loop, 3)), 1, 2)
        return ("if", arms, self.pick([None, self.block(deep + 1, in_loop, 2)]))

    def state_for(self, deep, in_loop):
        limits = [("number", self.pick(NUMBERS)), ("number", 2), ("number", 3)]
        step = self.pick([None, None, None, ("number", 1), ("number", self.pick(NUMBERS)), self.expression(2)])
        return ("for", self.word(), ("number", 1), self.pick(limits + [self.make_probe(1)]), step, self.block(deep + 1, True, 3))

    def state_forin(self, deep, in_loop):
        values = self.pick([(self.make_object(0),), (self.make_object(0),) * 4, (self.make_object(0),) * 5,
                            (self.make_object(0), ("nil",), ("nil",), self.make_probe(1)), self.list(0, 1, 3)])
        return ("forin", self.few(self.word, 1), values, self.block(deep + 1, True, 3))

    def state_goto(self, deep, in_loop):
        return ("goto", self.pick(self.labels))

    def state_break(self, deep, in_loop):
        return ("break",)


def made_programs(many, first=0):
    """So many programs that are not refused."""
    seed = first
    while many > 0:
        program = RunMaker(seed).program()
        seed += 1
        if refusal(program, check_program) is None:
            many -= 1
            yield seed - 1, program
