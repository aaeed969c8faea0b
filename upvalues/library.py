"""The library: the table of globals and that of coroutine functions, as they are when a run begins."""

from upvalues.basics import (
    do_assert,
    do_collect,
    do_error,
    do_getmetatable,
    do_kind,
    do_pcall,
    do_rawequal,
    do_rawget,
    do_rawlen,
    do_rawset,
    do_setmetatable,
    do_tonumber,
)
from upvalues.coroutines import (
    do_close,
    do_create,
    do_isyieldable,
    do_resume,
    do_running,
    do_status,
    do_wrap,
    do_yield,
)
from upvalues.texts import do_print, do_tostring
from upvalues.walks import do_ipairs, do_ipairs_step, do_next, do_pairs, do_select, do_unpack


def global_functions():
    """The names of the global functions in their order, and what they do."""
    return [
        ("print", do_print),
        ("kind", do_kind),
        ("next", do_next),
        ("pairs", do_pairs),
        ("ipairs", do_ipairs),
        ("select", do_select),
        ("unpack", do_unpack),
        ("rawget", do_rawget),
        ("rawset", do_rawset),
        ("rawequal", do_rawequal),
        ("rawlen", do_rawlen),
        ("getmetatable", do_getmetatable),
        ("setmetatable", do_setmetatable),
        ("tostring", do_tostring),
        ("tonumber", do_tonumber),
        ("error", do_error),
        ("assert", do_assert),
        ("pcall", do_pcall),
        ("collect", do_collect),
    ]


def coroutine_functions():
    """The names of the functions of the table "coroutine" in their order, and what they do."""
    return [
        ("create", do_create),
        ("resume", do_resume),
        ("yield", do_yield),
        ("status", do_status),
        ("wrap", do_wrap),
        ("isyieldable", do_isyieldable),
        ("running", do_running),
        ("close", do_close),
    ]


def fill_globals(run):
    """Gives a run its globals, with all that is there when it begins."""
    functions = global_functions()
    inner = coroutine_functions()
    run.globals = run.new_table(0, len(functions) + 1)
    table = run.new_table(0, len(inner))
    for name, act in functions:
        run.globals.put(name, run.new_native(name, act))
    run.globals.put("coroutine", table)
    for name, act in inner:
        table.put(name, run.new_native(f"coroutine.{name}", act))
    # The function of ipairs stands in no table.
    run.new_native("ipairs step", do_ipairs_step)
