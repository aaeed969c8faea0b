"""Values of the language that are objects, the kinds of all values, and what is thrown."""


class Thrown(ArithmeticError):
    """An error of the language: its value is what a program can catch."""

    def __init__(self, value):
        self.value = value


class Kinded:
    """A value of the language that is an object of the package: its class tells its kind."""

    KIND = "nil"


class Native(Kinded):
    """A function of the library; act is None for one that is never called."""

    KIND = "function"

    def __init__(self, name, act):
        self.name = name
        self.act = act


def kind_name(value):
    """The kind of a value, as programs and errors name it."""
    if value is None:
        return "nil"
    if isinstance(value, bool):
        return "boolean"
    if isinstance(value, int):
        return "number"
    if isinstance(value, str):
        return "string"
    return value.KIND
