"""The functions of the library that look at single values, and that throw, catch and collect."""

from upvalues.arguments import argument, check_argument, table_at, value_at, whole_or
from upvalues.events import set_meta, told_meta
from upvalues.frames import ProtectedCall
from upvalues.numbers import is_number, same
from upvalues.numerals import read_number
from upvalues.objects import Thrown, is_true, kind_name
from upvalues.tables import Table


def do_kind(run, args):
    """kind(x)"""
    run.give([kind_name(value_at(args, 1, "kind"))])


def do_tonumber(run, args):
    """tonumber(x)"""
    value = value_at(args, 1, "tonumber")
    if isinstance(value, str):
        run.give([read_number(value)])
    else:
        run.give([value if is_number(value) else None])


def do_rawget(run, args):
    """rawget(t, x)"""
    table = table_at(args, 1, "rawget")
    run.give([table.get(value_at(args, 2, "rawget"))])


def do_rawset(run, args):
    """rawset(t, x, x)"""
    table = table_at(args, 1, "rawset")
    key = value_at(args, 2, "rawset")
    table.put(key, value_at(args, 3, "rawset"))
    run.give([table])


def do_rawequal(run, args):
    """rawequal(x, x)"""
    one = value_at(args, 1, "rawequal")
    run.give([same(one, value_at(args, 2, "rawequal"))])


def do_rawlen(run, args):
    """rawlen(x)"""
    value = value_at(args, 1, "rawlen")
    check_argument(isinstance(value, (Table, str)), 1, "rawlen", "table or string expected")
    run.give([value.border() if isinstance(value, Table) else len(value)])


def do_getmetatable(run, args):
    """getmetatable(x)"""
    run.give([told_meta(value_at(args, 1, "getmetatable"))])


def do_setmetatable(run, args):
    """setmetatable(t, m)"""
    table = table_at(args, 1, "setmetatable")
    meta = argument(args, 2)
    is_good = len(args) > 1 and (meta is None or isinstance(meta, Table))
    check_argument(is_good, 2, "setmetatable", "nil or table expected")
    set_meta(table, meta)
    run.note_marked(table)
    run.give([table])


def do_error(run, args):
    """error(x, i = 1)"""
    level = whole_or(args, 2, "error", 1)
    run.throw(run.with_line(argument(args, 1), level))


def do_assert(run, args):
    """assert(x, ..)"""
    if is_true(value_at(args, 1, "assert")):
        run.give(args)
    else:
        run.throw(args[1] if len(args) > 1 else "assertion failed!")


def do_pcall(run, args):
    """pcall(f, ..)"""
    called = value_at(args, 1, "pcall")
    run.push(ProtectedCall(called, args[1:]))


def do_collect(run, args):
    """collect()"""
    run.collect()
