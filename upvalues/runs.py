"""Runs: programs run by one of the engines, code run by the machine, and what a run tells."""

from upvalues.compiler import compile_program
from upvalues.errors import InvalidArgument
from upvalues.ints import is_int
from upvalues.judge import check_code
from upvalues.library import fill_globals
from upvalues.machine import Machine
from upvalues.numbers import Float
from upvalues.programs import check_program
from upvalues.running import Run
from upvalues.walker import Walker

MOST_WORK = 10 ** 7


class Outcome:
    """What a run tells: how it ended, its log, and the work that was done."""

    def __init__(self, end, log, work):
        self.end = end
        self.log = log
        self.work = work

    def __eq__(self, other):
        return (
            isinstance(other, Outcome)
            and are_alike(self.end, other.end)
            and self.log == other.log
            and self.work == other.work
        )


def are_alike(one, other):
    """Whether two ends, or parts of them, are equal; a boolean equals no number."""
    if isinstance(one, (list, tuple)) and isinstance(other, (list, tuple)):
        return len(one) == len(other) and all([are_alike(a, b) for a, b in zip(one, other)])
    return one == other and isinstance(one, bool) == isinstance(other, bool)


def outcome(program, *, engine="walker", work=10 ** 5):
    """The Outcome of a program, run by the walker, or compiled and run by the machine."""
    check_program(program)
    if not isinstance(engine, str) or engine not in ("walker", "machine"):
        raise InvalidArgument("engine")
    check_work(work)
    if engine == "walker":
        return outcome_of(Walker(program), work)
    return outcome_of(Machine(compile_program(program)), work)


def code_outcome(codes, *, work=10 ** 5):
    """The Outcome of a program of code, run by the machine."""
    check_code(codes)
    check_work(work)
    return outcome_of(Machine(codes), work)


def check_work(work):
    """Raises for what is no bound of work."""
    if not is_int(work) or not 0 <= work <= MOST_WORK:
        raise InvalidArgument("work")


def outcome_of(engine, work):
    """The Outcome of a run by an engine."""
    run = Run(engine, work)
    fill_globals(run)
    run.go()
    return Outcome(run.end, run.log, run.work)
