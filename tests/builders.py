"""Short ways to write programs and numbers down in tests."""

import math

from upvalues.errors import InvalidProgram
from upvalues.numbers import Float
from upvalues.objects import Thrown

NIL = ("nil",)
BREAK = ("break",)
INF = Float(1, "inf", 0)
MINUS_INF = Float(-1, "inf", 0)
NAN = Float(1, "nan", 0)
ZERO = Float(1, 0, 0)
MINUS_ZERO = Float(-1, 0, 0)
LEAST_INT = -(2 ** 63)
GREATEST_INT = 2 ** 63 - 1


def name(word):
    return ("name", word)


def names(*words):
    return tuple(name(word) for word in words)


def call(called, *args):
    return ("call", called, args)


def doing(*path_of_calls):
    """A statement that calls something with the given arguments."""
    return ("call", ("call", NIL, path_of_calls))


def local(words, *values, marks=None):
    """A local of the words of a text."""
    words = tuple(words.split())
    if marks is None:
        marks = (None,) * len(words)
    return ("local", words, marks, values)


def function(*block, params="", dots=False):
    return ("function", tuple(params.split()), dots, block)


def put(target, *values):
    """A set of one target."""
    return ("set", (target,), values or (NIL,))


def give(*values):
    return ("return", values)


def label(word):
    return ("label", word)


def goto(word):
    return ("goto", word)


def do(*block):
    return ("do", block)


def loop(*block):
    return ("while", NIL, block)


def repeat(question, *block):
    return ("repeat", block, question)


def when(*block, other=None):
    return ("if", ((NIL, block),), other)


def count(word, *block):
    return ("for", word, NIL, NIL, None, block)


def each(words, *block, values=(NIL,)):
    return ("forin", tuple(words.split()), values, block)


def refusal(program, ask):
    """What InvalidProgram tells of a program, or None."""
    try:
        ask(program)
    except InvalidProgram as found:
        return found.path, found.word
    return None


def real(number):
    """The Float of a float of Python's own."""
    sign = -1 if math.copysign(1, number) < 0 else 1
    if math.isnan(number):
        return NAN
    if math.isinf(number):
        return Float(sign, "inf", 0)
    top, bottom = abs(number).as_integer_ratio()
    return Float(sign, top, 1 - bottom.bit_length())


def written(number):
    """A number as a text that tells all of it, for messages and comparisons."""
    if isinstance(number, Float):
        return ("float", number.sign, number.top, number.power)
    return (type(number).__name__, number)


def filled(table, *keys):
    """A table in which each key has itself as its value."""
    for key in keys:
        table.put(key, key)
    return table


def thrown(act, *args):
    """The value of what is thrown, or None."""
    try:
        act(*args)
    except Thrown as found:
        return found.value
    return None
