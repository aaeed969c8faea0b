"""Programs: whether a thing is one, the lines of its statements, and its tail calls."""

from upvalues.reading import read_program


def check_program(program):
    """Raises InvalidProgram for what is no program."""
    read_program(program)


def statement_paths(program):
    """The paths of all statements, by their lines."""
    reading = read_program(program)
    return reading.lines


def tail_returns(program):
    """The paths of all returns that are tail calls, in reading order."""
    reading = read_program(program)
    return reading.tails
