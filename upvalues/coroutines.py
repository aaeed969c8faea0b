"""The functions of the library that stand in the table of the global "coroutine"."""

from upvalues.arguments import argument, check_argument, function_at, got
from upvalues.objects import Thread, Thrown


def thread_at(args, name):
    """The first argument, which must be a coroutine."""
    found = argument(args, 1)
    check_argument(isinstance(found, Thread), 1, name, f"coroutine expected, got {got(args, 1)}")
    return found


def do_create(run, args):
    """create(f)"""
    run.give([run.new_thread(function_at(args, 1, "create"))])


def do_wrap(run, args):
    """wrap(f)"""
    thread = run.new_thread(function_at(args, 1, "wrap"))
    run.give([run.new_resumer(thread)])


def do_resume(run, args):
    """resume(co, ..)"""
    run.resume(thread_at(args, "resume"), args[1:], False)


def has_barrier(run):
    """Whether no yield goes out of one of the frames of the running thread."""
    return any([frame.HOLDS_YIELD for frame in run.thread.frames])


def is_main(run):
    """Whether the main thread is the running one."""
    return run.thread == run.main


def do_yield(run, args):
    """yield(..)"""
    if is_main(run):
        raise Thrown("attempt to yield from outside a coroutine")
    if has_barrier(run):
        raise Thrown("attempt to yield across a native call")
    run.go_back("suspended", args)


def do_status(run, args):
    """status(co)"""
    thread = thread_at(args, "status")
    run.give([thread.status])


def do_running(run, args):
    """running()"""
    run.give([run.thread, is_main(run)])


def do_isyieldable(run, args):
    """isyieldable()"""
    run.give([not is_main(run) and not has_barrier(run)])


def do_close(run, args):
    """close(co)"""
    thread = thread_at(args, "close")
    if thread.status in ("running", "normal"):
        raise Thrown(f"cannot close a {thread.status} coroutine")
    run.close_thread(thread, False)
