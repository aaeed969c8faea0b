"""What operators, indexes and calls come to: a value, or the call of an event.

A deed is ("value", v), or ("call", f, args, shape), where shape names what is made of the results.
"""

from upvalues.ints import BIT_WORDS
from upvalues.numbers import arith, bit_not, compare, is_number, negated, same
from upvalues.numerals import text_of
from upvalues.objects import Thrown, is_function, is_true, kind_name
from upvalues.tables import Table

MOST_ROUNDS = 2000
MOST_CALLED = 100
MOST_SIGNS = 100000

EVENTS = {
    "add": "__add",
    "sub": "__sub",
    "mul": "__mul",
    "div": "__div",
    "floor": "__idiv",
    "mod": "__mod",
    "band": "__band",
    "bor": "__bor",
    "bxor": "__bxor",
    "shl": "__shl",
    "shr": "__shr",
    "neg": "__unm",
    "bnot": "__bnot",
    "lt": "__lt",
    "le": "__le",
}
# The words that compare their operands the other way round.
TURNED = {"gt": "lt", "ge": "le"}


def meta_of(value, name):
    """The event of a value, as it lies in its metatable, or None."""
    if not isinstance(value, Table) or value.meta is None:
        return None
    return value.meta.get(name)


def shaped(values, shape):
    """What is made of the results of a deed's call."""
    first = values[0] if len(values) > 0 else None
    if shape == "one":
        return first
    if shape == "truth":
        return is_true(first)
    if shape == "untrue":
        return not is_true(first)
    return None


def chain_error(name):
    """The text for a row of events that is too long."""
    return f"'{name}' chain too long; possibly a loop"


def index_deed(thing, key):
    """The deed of reading a value at a key."""
    for _ in range(MOST_ROUNDS):
        if not isinstance(thing, Table):
            raise Thrown(f"attempt to index a {kind_name(thing)} value")
        found = thing.get(key)
        if found is not None:
            return "value", found
        event = meta_of(thing, "__index")
        if event is None:
            return "value", None
        if is_function(event):
            return "call", event, [thing, key], "one"
        thing = event
    raise Thrown(chain_error("__index"))


def store_deed(thing, key, value):
    """The deed of storing a value at a key; without a call it is stored at once."""
    for _ in range(MOST_ROUNDS):
        if not isinstance(thing, Table):
            raise Thrown(f"attempt to index a {kind_name(thing)} value")
        event = meta_of(thing, "__newindex")
        if event is None or thing.get(key) is not None:
            thing.put(key, value)
            return "value", None
        if is_function(event):
            return "call", event, [thing, key, value], "none"
        thing = event
    raise Thrown(chain_error("__newindex"))


def event_of_two(name, one, other):
    """The event of the first of two values, or if it has none that of the second one, or None."""
    event = meta_of(one, name)
    return meta_of(other, name) if event is None else event


def arith_error(word, value):
    """The text for a value that cannot be reckoned with."""
    deed = "perform bitwise operation on" if word in BIT_WORDS or word == "bnot" else "perform arithmetic on"
    return f"attempt to {deed} a {kind_name(value)} value"


def arith_deed(word, one, other):
    """The deed of an operator that reckons with two values."""
    if is_number(one) and is_number(other):
        return "value", arith(word, one, other)
    event = event_of_two(EVENTS[word], one, other)
    if event is None:
        raise Thrown(arith_error(word, other if is_number(one) else one))
    return "call", event, [one, other], "one"


def unary_deed(word, one):
    """The deed of neg or bnot."""
    if is_number(one):
        return "value", negated(one) if word == "neg" else bit_not(one)
    event = meta_of(one, EVENTS[word])
    if event is None:
        raise Thrown(arith_error(word, one))
    return "call", event, [one, one], "one"


def can_be_joined(value):
    """Whether a value is a string or a number."""
    return isinstance(value, str) or is_number(value)


def joined_text(value):
    """The text of a string or a number."""
    return value if isinstance(value, str) else text_of(value)


def concat_deed(one, other):
    """The deed of putting two values together."""
    if can_be_joined(one) and can_be_joined(other):
        text = joined_text(one) + joined_text(other)
        if len(text) > MOST_SIGNS:
            raise Thrown("string length overflow")
        return "value", text
    event = event_of_two("__concat", one, other)
    if event is None:
        raise Thrown(f"attempt to concatenate a {kind_name(other if can_be_joined(one) else one)} value")
    return "call", event, [one, other], "one"


def length_deed(one):
    """The deed of asking for a value's length."""
    if isinstance(one, str):
        return "value", len(one)
    event = meta_of(one, "__len")
    if event is not None:
        return "call", event, [one, one], "one"
    if isinstance(one, Table):
        return "value", one.border()
    raise Thrown(f"attempt to get length of a {kind_name(one)} value")


def equality(one, other, shape):
    """The deed of asking whether two values are equal, or unlike."""
    is_same = same(one, other)
    if not is_same and isinstance(one, Table) and isinstance(other, Table):
        event = event_of_two("__eq", one, other)
        if event is not None:
            return "call", event, [one, other], shape
    return "value", is_same == (shape == "truth")


def equal_deed(one, other):
    """The deed of asking whether two values are equal."""
    return equality(one, other, "truth")


def unlike_deed(one, other):
    """The deed of asking whether two values are unlike."""
    return equality(one, other, "untrue")


def less_deed(word, one, other):
    """The deed of lt, le, gt or ge."""
    if word in TURNED:
        return less_deed(TURNED[word], other, one)
    if is_number(one) and is_number(other):
        return "value", compare(word, one, other)
    if isinstance(one, str) and isinstance(other, str):
        return "value", one < other if word == "lt" else one <= other
    event = event_of_two(EVENTS[word], one, other)
    if event is not None:
        return "call", event, [one, other], "truth"
    first, second = kind_name(one), kind_name(other)
    if first == second:
        raise Thrown(f"attempt to compare two {first} values")
    raise Thrown(f"attempt to compare {first} with {second}")


def binary_deed(word, one, other):
    """The deed of an operator of two values, by its word."""
    if word == "concat":
        return concat_deed(one, other)
    if word == "eq":
        return equal_deed(one, other)
    if word == "ne":
        return unlike_deed(one, other)
    if word in ("lt", "le", "gt", "ge"):
        return less_deed(word, one, other)
    return arith_deed(word, one, other)


def call_target(called, args):
    """What a call comes to: a function and its arguments."""
    args = list(args)
    many = 1
    while not is_function(called):
        event = meta_of(called, "__call")
        if event is None:
            raise Thrown(f"attempt to call a {kind_name(called)} value")
        # The last one of the row has to have an event, too, but what this is does not matter.
        if many == MOST_CALLED:
            raise Thrown(chain_error("__call"))
        args.insert(0, called)
        called = event
        many += 1
    return called, args


def set_meta(table, meta):
    """Gives a table another metatable, or none for None."""
    if meta_of(table, "__metatable") is not None:
        raise Thrown("cannot change a protected metatable")
    table.meta = meta


def told_meta(value):
    """What programs see as the metatable of a value."""
    shown = meta_of(value, "__metatable")
    if shown is not None:
        return shown
    return value.meta if isinstance(value, Table) else None


def is_closable(value):
    """Whether a value can be closed: nil, false, and what has the event."""
    return not is_true(value) or meta_of(value, "__close") is not None
