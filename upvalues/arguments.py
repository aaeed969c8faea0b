"""The arguments of the library's functions: what they must be, and the errors for those that are not."""

from upvalues.numbers import is_number, whole_of
from upvalues.objects import Thrown, is_function, kind_name
from upvalues.tables import Table


def check_argument(is_good, number, name, why):
    """Raises for an argument that is wrong."""
    if not is_good:
        raise Thrown(f"bad argument #{number} to '{name}' ({why})")


def argument(args, number):
    """An argument by its number, nil where there is none."""
    return args[number - 1] if len(args) >= number else None


def got(args, number):
    """What stands in the place of an argument, as errors tell it."""
    return kind_name(args[number - 1]) if len(args) >= number else "no value"


def value_at(args, number, name):
    """An argument that must be there, whatever it is."""
    check_argument(len(args) >= number, number, name, "value expected")
    return args[number - 1]


def table_at(args, number, name):
    """An argument that must be a table."""
    found = argument(args, number)
    check_argument(isinstance(found, Table), number, name, f"table expected, got {got(args, number)}")
    return found


def function_at(args, number, name):
    """An argument that must be a function."""
    found = argument(args, number)
    check_argument(is_function(found), number, name, f"function expected, got {got(args, number)}")
    return found


def whole_at(args, number, name):
    """An argument that must be a number with an integer value; returns the integer."""
    found = argument(args, number)
    check_argument(is_number(found), number, name, f"number expected, got {got(args, number)}")
    whole = whole_of(found)
    check_argument(whole is not None, number, name, "number has no integer representation")
    return whole


def whole_or(args, number, name, default):
    """The same, or what is taken for an argument that is nil or left out."""
    if argument(args, number) is None:
        return default
    return whole_at(args, number, name)
