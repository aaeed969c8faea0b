"""The trees of statements, by their words."""

from upvalues.tree_expressions import body_tree
from upvalues.walk_expressions import take_none, walk_constant, walk_name
from upvalues.walk_statements import (
    HIDDEN,
    store_index,
    store_variable,
    walk_break,
    walk_call_alone,
    walk_do,
    walk_for,
    walk_forin,
    walk_goto,
    walk_if,
    walk_label,
    walk_local,
    walk_localfun,
    walk_repeat,
    walk_return,
    walk_set,
    walk_tail,
    walk_while,
)


def local_tree(maker, path, node):
    """The tree of a local."""
    _, names, marks, values = node
    found = maker.list_of(path + (3,), values)
    maker.declare(path, len(names))
    place = marks.index("close") if "close" in marks else None
    return walk_local, maker.line, found, len(names), place


def localfun_tree(maker, path, node):
    """The tree of a localfun."""
    maker.declare(path, 1)
    return walk_localfun, maker.line, body_tree(maker, path + (2,))


def set_tree(maker, path, node):
    """The tree of a set; a target that is a field is an index of the variable _ENV."""
    _, targets, values = node
    parts = []
    # For each target its store, but for the place at which the value waits.
    stores = []
    for at, target in enumerate(targets):
        here = path + (1, at)
        if target[0] == "index":
            stores.append((store_index, len(parts)))
            parts.append(maker.one(here + (1,), target[1]))
            parts.append(maker.one(here + (2,), target[2]))
            continue
        word, variable = maker.outline.needs[here]
        if word == "field":
            stores.append((store_index, len(parts)))
            parts.append((walk_name, maker.place_of(variable)))
            parts.append((walk_constant, target[1]))
        else:
            stores.append((store_variable, maker.place_of(variable)))
    stores = [store + (len(parts) + at,) for at, store in enumerate(stores)]
    found = maker.list_of(path + (2,), values)
    return walk_set, maker.line, tuple(parts), found, len(targets), tuple(stores[::-1])


def do_tree(maker, path, node):
    """The tree of a do."""
    return walk_do, maker.line, maker.block_of(path + (1,), node[1])


def while_tree(maker, path, node):
    """The tree of a while."""
    return walk_while, maker.line, maker.one(path + (1,), node[1]), maker.block_of(path + (2,), node[2])


def repeat_tree(maker, path, node):
    """The tree of a repeat."""
    return walk_repeat, maker.line, maker.block_of(path + (1,), node[1], node[2])


def if_tree(maker, path, node):
    """The tree of an if."""
    arms = tuple([
        (maker.one(path + (1, at, 0), question), maker.block_of(path + (1, at, 1), block))
        for at, (question, block) in enumerate(node[1])
    ])
    return walk_if, maker.line, arms, None if node[2] is None else maker.block_of(path + (2,), node[2])


def for_tree(maker, path, node):
    """The tree of a for."""
    _, _, start, limit, step, block = node
    step_tree = (walk_constant, 1) if step is None else maker.one(path + (4,), step)
    found = (maker.one(path + (2,), start), maker.one(path + (3,), limit), step_tree)
    return walk_for, maker.line, *found, round_tree(maker, path, 0, 1, path + (5,), block)


def forin_tree(maker, path, node):
    """The tree of a forin."""
    _, names, values, block = node
    found = maker.list_of(path + (2,), values)
    return walk_forin, maker.line, len(names), found, round_tree(maker, path, HIDDEN, len(names), path + (3,), block)


def round_tree(maker, path, hidden, many, block_path, block):
    """The tree of the block of a for or a forin, in which the variables are that it begins in each round."""
    begun = maker.height
    maker.height += hidden
    maker.declare(path, many)
    found = maker.block_of(block_path, block)
    maker.height = begun
    return found


def call_alone_tree(maker, path, node):
    """The tree of a call whose results are dropped."""
    return walk_call_alone, maker.line, maker.multiple(path + (1,), node[1], take_none)


def return_tree(maker, path, node):
    """The tree of a return, or of a tail call."""
    if path in maker.outline.tails:
        return walk_tail, maker.line, maker.call_parts(path + (1, 0), node[1][0])
    return walk_return, maker.line, maker.list_of(path + (1,), node[1])


def break_tree(maker, path, node):
    """The tree of a break."""
    return walk_break, maker.line


def goto_tree(maker, path, node):
    """The tree of a goto."""
    return walk_goto, maker.line, maker.labels[maker.outline.jumps[path]]


def label_tree(maker, path, node):
    """The tree of a label; with it, it is known how many variables it sees."""
    label = maker.labels[path]
    label.height = maker.height
    return walk_label, maker.line


STATEMENTS = {
    "local": local_tree,
    "set": set_tree,
    "do": do_tree,
    "while": while_tree,
    "repeat": repeat_tree,
    "if": if_tree,
    "for": for_tree,
    "forin": forin_tree,
    "localfun": localfun_tree,
    "call": call_alone_tree,
    "return": return_tree,
    "break": break_tree,
    "goto": goto_tree,
    "label": label_tree,
}
