"""Scopes: the variables of a program, what its names are, its upvalues, where its jumps go."""

from upvalues.reading import read_program


def declarations(program):
    """(path, place, name, mark, is_captured) of all variables, as they come into scope."""
    reading = read_program(program)
    return [
        (variable.path, variable.place, variable.name, variable.mark, variable.is_captured)
        for variable in reading.declared
    ]


def uses(program):
    """(path, word, where, borders) of all names, in reading order."""
    reading = read_program(program)
    return reading.uses


def upvalue_places(program):
    """For each function, in reading order, where its upvalues are declared."""
    reading = read_program(program)
    return [[variable.where() for variable in scope.upvalues] for scope in reading.functions]


def jumps(program):
    """(path, path) of all gotos and breaks, in reading order, and of where they go."""
    reading = read_program(program)
    return reading.jumps
