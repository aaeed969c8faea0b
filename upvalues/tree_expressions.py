"""The trees of expressions, by their words."""

from upvalues.walk_expressions import (
    take_all,
    take_first,
    walk_choice,
    walk_constant,
    walk_field,
    walk_first_dots,
    walk_function,
    walk_index,
    walk_name,
    walk_op,
    walk_table,
    walk_unary,
)

CONSTANTS = {"nil": None, "true": True, "false": False}
# What gives several values where they are wanted.
MULTIPLE = ("call", "method", "dots")


def literal_tree(maker, path, node):
    """The tree of nil, true, false, a number or a string."""
    return walk_constant, node[1] if len(node) > 1 else CONSTANTS[node[0]]


def dots_tree(maker, path, node):
    """The tree of dots, for one value."""
    return (walk_first_dots,)


def name_tree(maker, path, node):
    """The tree of a name."""
    word, variable = maker.outline.needs[path]
    if word == "field":
        return walk_field, maker.place_of(variable), node[1]
    return walk_name, maker.place_of(variable)


def function_tree(maker, path, node):
    """The tree of a function."""
    return walk_function, body_tree(maker, path)


def body_tree(maker, path):
    """The body of the function at a path."""
    number = maker.outline.numbers[path]
    return maker.body_of(maker.outline.functions[number])


def index_tree(maker, path, node):
    """The tree of an index."""
    return walk_index, maker.one(path + (1,), node[1]), maker.one(path + (2,), node[2])


def call_tree(maker, path, node):
    """The tree of a call or a method, for one value."""
    return maker.multiple(path, node, take_first)


def choice_tree(maker, path, node):
    """The tree of and or or."""
    return walk_choice, node[0] == "and", maker.one(path + (1,), node[1]), maker.one(path + (2,), node[2])


def paren_tree(maker, path, node):
    """The tree of what stands in parens, for one value."""
    return maker.one(path + (1,), node[1])


def op_tree(maker, path, node):
    """The tree of an operator of two values."""
    return walk_op, node[1], maker.one(path + (2,), node[2]), maker.one(path + (3,), node[3])


def unary_tree(maker, path, node):
    """The tree of an operator of one value."""
    return walk_unary, node[1], maker.one(path + (2,), node[2])


def table_tree(maker, path, node):
    """The tree of a table: for each item a key, None for one without, and a value."""
    found = []
    places = 0
    for at, item in enumerate(node[1]):
        here = path + (1, at)
        if item[0] == "pair":
            found.append((maker.one(here + (1,), item[1]), maker.one(here + (2,), item[2])))
        elif at == len(node[1]) - 1 and item[1][0] in MULTIPLE:
            found.append((None, maker.multiple(here + (1,), item[1], take_all)))
        else:
            places += 1
            found.append((None, maker.one(here + (1,), item[1])))
    pairs = len([item for item in node[1] if item[0] == "pair"])
    return walk_table, tuple(found), places, pairs


EXPRESSIONS = {
    "nil": literal_tree,
    "true": literal_tree,
    "false": literal_tree,
    "number": literal_tree,
    "string": literal_tree,
    "dots": dots_tree,
    "name": name_tree,
    "function": function_tree,
    "index": index_tree,
    "call": call_tree,
    "method": call_tree,
    "and": choice_tree,
    "or": choice_tree,
    "paren": paren_tree,
    "op": op_tree,
    "unary": unary_tree,
    "table": table_tree,
}
