"""How the walker does statements, and how it leaves blocks, loops and functions.

Each statement is a tuple (act, line, ..). While none is done, no value waits in the frame. What has to be
done behind its parts is noted ahead of them, as a tuple (act, ..).
"""

from upvalues.events import store_deed
from upvalues.numbers import for_plan
from upvalues.objects import Cell, is_true
from upvalues.walk_expressions import make_function, take_all

# A forin hides its function, state, control value, and the value to be closed.
HIDDEN = 4


class Scope:
    """What is left at one time: a block, a loop, or the hidden values of a forin with its loop."""

    def __init__(self, word, block, height, depth, line):
        self.word = word
        self.block = block
        # How many variables were there, and how much was noted, when it was begun.
        self.height = height
        self.depth = depth
        # The line in which it ends.
        self.line = line


# Blocks and functions.


def begin_scope(frame, word, block, line):
    """Goes into a scope, and notes its end."""
    frame.entered.append(Scope(word, block, len(frame.variables), len(frame.todo), line))
    frame.todo.append((end_scope,))


def end_scope(frame, run, task):
    """Ends the innermost scope."""
    scope = frame.entered.pop()
    frame.line = scope.line
    end_from(frame, scope.height)


def end_from(frame, floor):
    """Ends the variables from one on, and notes that what is pending for them is closed then."""
    del frame.variables[floor:]
    if frame.has_pending(floor):
        frame.todo.append((close_from, floor))


def close_from(frame, run, task):
    """(act, floor): closes the next value that is pending for a variable from floor on."""
    if frame.has_pending(task[1]):
        frame.todo.append(task)
        frame.close_last(run)


def begin_block(frame, block):
    """Goes into a block."""
    begin_scope(frame, "block", block, block.line)
    frame.todo.append((walk_rows, block, 0))


def walk_rows(frame, run, task):
    """(act, block, at): does a statement of a block, and goes on to the next one."""
    _, block, at = task
    if at < len(block.statements):
        row = block.statements[at]
        act = row[0]
        frame.line = row[1]
        frame.todo.append((walk_rows, block, at + 1))
        act(frame, run, row)
    elif block.question is not None:
        frame.line = block.line
        frame.do_later([block.question, (note_answer,)])


def note_answer(frame, run, task):
    """Keeps of the answer to a question only whether it is true; its value does not wait on."""
    frame.waiting.append(is_true(frame.waiting.pop()))


def begin_function(frame, body):
    """Goes into the block of a function."""
    frame.todo.append((end_function,))
    begin_block(frame, body.block)


def end_function(frame, run, task):
    """Ends the frame; the values that wait are its results."""
    run.leave(list(frame.waiting))


# Lists of a length that is wanted.


def adjust(frame, run, task):
    """(act, wanted): drops surplus values of a list, or puts nil behind."""
    del frame.waiting[task[1]:]
    frame.waiting.extend([None] * (task[1] - len(frame.waiting)))


def begin_variables(frame, values):
    """Begins new variables."""
    frame.variables.extend([Cell(value) for value in values])


def walk_local(frame, run, task):
    """(act, line, values, how many names, place of the one to be closed or None)"""
    _, _, values, many, place = task
    frame.do_later([*values, (adjust, many), (begin_local, place)])


def begin_local(frame, run, task):
    """(act, place): begins the variables of a local, and lets the one at the place be pending."""
    place = task[1]
    first = len(frame.variables)
    values = frame.taken_from(0)
    begin_variables(frame, values)
    if place is not None:
        frame.begin_pending(first + place, values[place])


def walk_localfun(frame, run, task):
    """(act, line, body)"""
    cell = Cell(None)
    frame.variables.append(cell)
    cell.value = make_function(frame, run, task[2])


def walk_set(frame, run, task):
    """(act, line, parts of the targets, values, how many are wanted, stores)"""
    _, _, parts, values, many, stores = task
    frame.do_later([*parts, *values, (adjust, len(parts) + many), *stores, (drop_values,)])


def store_variable(frame, run, task):
    """(act, where the variable is, at): stores a value that waits into a variable."""
    _, place, at = task
    cell = frame.cell_at(place)
    cell.value = frame.waiting[at]


def store_index(frame, run, task):
    """(act, part, at): stores a value that waits by the value and the key that wait from part on."""
    _, part, at = task
    deed = store_deed(frame.waiting[part], frame.waiting[part + 1], frame.waiting[at])
    if deed[0] == "call":
        run.call(deed[1], deed[2])


def drop_values(frame, run, task):
    """Drops all values that wait."""
    frame.waiting.clear()


def walk_call_alone(frame, run, task):
    """(act, line, call)"""
    frame.do_later([task[2]])


def walk_do(frame, run, task):
    """(act, line, block)"""
    begin_block(frame, task[2])


def walk_if(frame, run, task):
    """(act, line, arms, block or None)"""
    ask_arm(frame, run, (ask_arm, task[2], 0, task[3]))


def ask_arm(frame, run, task):
    """(act, arms, at, block or None): asks the next arm; behind the last one does the block."""
    _, arms, at, other = task
    if at < len(arms):
        question, block = arms[at]
        frame.do_later([question, (go_into_arm, block, (ask_arm, arms, at + 1, other))])
    elif other is not None:
        begin_block(frame, other)


def go_into_arm(frame, run, task):
    """(act, block, what comes next if the answer is not true)"""
    _, block, following = task
    if is_true(frame.waiting.pop()):
        begin_block(frame, block)
    else:
        frame.todo.append(following)


# Loops.


def walk_while(frame, run, task):
    """(act, line, question, block)"""
    _, line, question, block = task
    begin_scope(frame, "loop", None, line)
    frame.todo.append((ask_while, question, block))


def ask_while(frame, run, task):
    """(act, question, block): asks ahead of a round."""
    _, question, block = task
    frame.do_later([question, (begin_round, block, task)])


def begin_round(frame, run, task):
    """(act, block, what comes behind it): begins a round, if the answer is true."""
    _, block, following = task
    if is_true(frame.waiting.pop()):
        run.count_work()
        frame.todo.append(following)
        begin_block(frame, block)


def walk_repeat(frame, run, task):
    """(act, line, block)"""
    _, line, block = task
    begin_scope(frame, "loop", None, line)
    repeat_round(frame, run, (repeat_round, block))


def repeat_round(frame, run, task):
    """(act, block): begins a round; the block asks at its end."""
    run.count_work()
    frame.todo.append((repeat_unless, task))
    begin_block(frame, task[1])


def repeat_unless(frame, run, task):
    """(act, what comes next if the answer is not true)"""
    if not frame.waiting.pop():
        frame.todo.append(task[1])


def walk_for(frame, run, task):
    """(act, line, start, limit, step, block)"""
    _, line, start, limit, step, block = task
    frame.do_later([start, limit, step, (begin_for, line, block)])


def begin_for(frame, run, task):
    """(act, line, block): makes the plan of the rounds."""
    _, line, block = task
    start, limit, step = frame.taken_from(0)
    plan = for_plan(start, limit, step)
    if plan is not None:
        begin_scope(frame, "loop", None, line)
        begin_for_round(frame, run, plan, block)


def begin_for_round(frame, run, plan, block):
    """Begins the round that a plan stands at."""
    run.count_work()
    frame.todo.append((go_on_for, plan, block))
    begin_block(frame, block)
    begin_variables(frame, [plan.value])


def go_on_for(frame, run, task):
    """(act, plan, block): goes over to the next round, if there is one."""
    _, plan, block = task
    if plan.goes_on():
        begin_for_round(frame, run, plan, block)


def walk_forin(frame, run, task):
    """(act, line, how many names, values, block)"""
    _, line, many, values, block = task
    frame.do_later([*values, (adjust, HIDDEN), (begin_forin, line, many, block)])


def begin_forin(frame, run, task):
    """(act, line, how many names, block): hides the four values of a forin in variables of its own."""
    _, line, many, block = task
    values = frame.taken_from(0)
    begin_scope(frame, "each", None, line)
    begin_variables(frame, values)
    frame.begin_pending(len(frame.variables) - 1, values[-1])
    frame.todo.append((ask_forin, many, block))


def ask_forin(frame, run, task):
    """(act, how many names, block): calls the function with state and control value."""
    frame.todo.append((begin_forin_round, task))
    called, state, control, _ = [cell.value for cell in frame.variables[-HIDDEN:]]
    run.call(called, [state, control])


def begin_forin_round(frame, run, task):
    """(act, what comes behind the round): begins a round, if the first result is not nil."""
    following = task[1]
    _, many, block = following
    values = frame.answer[:many]
    values.extend([None] * (many - len(values)))
    if values[0] is not None:
        control = frame.variables[-2]
        control.value = values[0]
        run.count_work()
        frame.todo.append(following)
        begin_block(frame, block)
        begin_variables(frame, values)


# Ways out.


def walk_break(frame, run, task):
    """(act, line)"""
    leave_loop(frame, run, (leave_loop,))


def leave_loop(frame, run, task):
    """Leaves the innermost scope, with its closers; then the next one, up to that of a loop."""
    scope = frame.entered.pop()
    del frame.todo[scope.depth:]
    if scope.word == "block":
        frame.todo.append(task)
    end_from(frame, scope.height)


def walk_goto(frame, run, task):
    """(act, line, label)"""
    leave_to_label(frame, run, (leave_to_label, task[2]))


def leave_to_label(frame, run, task):
    """(act, label): leaves the innermost scope, with its closers; then the next one, up to the label's block."""
    label = task[1]
    scope = frame.entered[-1]
    if scope.block is not None and scope.block.number == label.number:
        # The note of the scope's end stays.
        del frame.todo[scope.depth + 1:]
        frame.do_later([(count_goto,), (walk_rows, scope.block, label.at + 1)])
        end_from(frame, label.height)
    else:
        frame.entered.pop()
        del frame.todo[scope.depth:]
        frame.todo.append(task)
        end_from(frame, scope.height)


def count_goto(frame, run, task):
    """Counts a goto."""
    run.count_work()


def walk_label(frame, run, task):
    """(act, line)"""


def walk_return(frame, run, task):
    """(act, line, values)"""
    _, _, values = task
    frame.do_later([*values, (go_back,)])


def go_back(frame, run, task):
    """Lets the values that wait be the results; all variables end, and all that is pending is closed."""
    frame.todo.clear()
    frame.entered.clear()
    frame.todo.append((end_function,))
    end_from(frame, 0)


def walk_tail(frame, run, task):
    """(act, line, parts: the function and the arguments)"""
    _, _, parts = task
    frame.do_later([*parts, (call_in_place,)])


def call_in_place(frame, run, task):
    """Makes a tail call; a function of the library leaves the frame as it is, and gives its results."""
    frame.todo.clear()
    frame.do_later([(take_all,), (end_function,)])
    called, *args = frame.taken_from(0)
    run.tail(called, args)
