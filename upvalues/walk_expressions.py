"""How the walker does expressions.

Each expression is a tuple (act, ..) which leaves its value among those that wait in the frame. What
has to be done behind its parts is noted ahead of them, as a tuple of the same form.
"""

from upvalues.events import binary_deed, index_deed, length_deed, shaped, unary_deed
from upvalues.objects import is_true

# So many items of a table wait before they are stored.
MOST_WAITING = 50


def walk_constant(frame, run, task):
    """(act, value)"""
    frame.waiting.append(task[1])


def walk_name(frame, run, task):
    """(act, where the variable is)"""
    frame.waiting.append(frame.cell_at(task[1]).value)


def walk_field(frame, run, task):
    """(act, where the variable with the fields is, name)"""
    frame.follow(run, index_deed(frame.cell_at(task[1]).value, task[2]))


def walk_function(frame, run, task):
    """(act, body)"""
    frame.waiting.append(make_function(frame, run, task[1]))


def make_function(frame, run, body):
    """A new function, which shares the variables that it captures."""
    return run.new_closure(body, [frame.cell_at(place) for place in body.upvalues])


def walk_first_dots(frame, run, task):
    """(act,)"""
    frame.waiting.append(frame.dots[0] if len(frame.dots) > 0 else None)


def walk_all_dots(frame, run, task):
    """(act,): all of them wait"""
    frame.waiting.extend(frame.dots)


def walk_index(frame, run, task):
    """(act, one, key)"""
    frame.do_later([task[1], task[2], (read_index,)])


def read_index(frame, run, task):
    """Reads the last but one value at the last one."""
    key = frame.waiting.pop()
    frame.follow(run, index_deed(frame.waiting.pop(), key))


def take_shaped(frame, run, task):
    """(act, shape): takes what is made of the results of a deed's call."""
    frame.waiting.append(shaped(frame.answer, task[1]))


# Calls.


def walk_call(frame, run, task):
    """(act, what is done with the results, parts: the function and the arguments)"""
    _, taker, parts = task
    frame.do_later([*parts, (call_waiting, len(frame.waiting)), (taker,)])


def find_method(frame, run, task):
    """(act, name): the value waits on as the first argument, the function below it."""
    frame.do_later([(turn_last,)])
    frame.follow(run, index_deed(frame.waiting[-1], task[1]))


def turn_last(frame, run, task):
    """Puts the last value below the one ahead of it."""
    found = frame.waiting.pop()
    frame.waiting.insert(len(frame.waiting) - 1, found)


def call_waiting(frame, run, task):
    """(act, base): calls the value that waits at base with all those behind it."""
    called, *args = frame.taken_from(task[1])
    run.call(called, args)


def take_first(frame, run, task):
    """Takes the first result."""
    frame.waiting.append(shaped(frame.answer, "one"))


def take_all(frame, run, task):
    """Takes all results."""
    frame.waiting.extend(frame.answer)


def take_none(frame, run, task):
    """Drops the results."""


# Operators.


def walk_choice(frame, run, task):
    """(act, whether it is and, one, other)"""
    _, is_and, one, other = task
    frame.do_later([one, (choose, is_and, other)])


def choose(frame, run, task):
    """Keeps the first operand, or drops it and does the second one."""
    _, is_and, other = task
    if is_true(frame.waiting[-1]) == is_and:
        frame.waiting.pop()
        frame.do_later([other])


def walk_op(frame, run, task):
    """(act, word, one, other)"""
    _, word, one, other = task
    frame.do_later([one, other, (do_op, word)])


def do_op(frame, run, task):
    """(act, word): does an operator of the last two values."""
    other = frame.waiting.pop()
    frame.follow(run, binary_deed(task[1], frame.waiting.pop(), other))


def walk_unary(frame, run, task):
    """(act, word, one)"""
    _, word, one = task
    frame.do_later([one, (do_unary, word)])


def do_unary(frame, run, task):
    """(act, word): does an operator of the last value."""
    word = task[1]
    one = frame.waiting.pop()
    if word == "not":
        frame.waiting.append(not is_true(one))
    elif word == "len":
        frame.follow(run, length_deed(one))
    else:
        frame.follow(run, unary_deed(word, one))


# Tables.


def walk_table(frame, run, task):
    """(act, items, places, nodes): makes a table, which waits while its items are done."""
    _, items, places, nodes = task
    frame.waiting.append(run.new_table(places, nodes))
    frame.do_later([(fill_table, items, 0, len(frame.waiting), 1)])


def fill_table(frame, run, task):
    """(act, items, at, base, start): does the next item; those without a key wait from base on."""
    _, items, at, base, start = task
    if at == len(items):
        store_batch(frame, base, start)
        return
    if len(frame.waiting) - base == MOST_WAITING:
        store_batch(frame, base, start)
        start += MOST_WAITING
    key, value = items[at]
    following = (fill_table, items, at + 1, base, start)
    if key is None:
        frame.do_later([value, following])
    else:
        frame.do_later([key, value, (store_pair, base), following])


def store_batch(frame, base, start):
    """Stores the items that wait from base on."""
    values = frame.taken_from(base)
    table = frame.waiting[-1]
    table.put_batch(start, values)


def store_pair(frame, run, task):
    """(act, base): stores the last value at the key ahead of it."""
    key, value = frame.taken_from(len(frame.waiting) - 2)
    table = frame.waiting[task[1] - 1]
    table.put(key, value)
